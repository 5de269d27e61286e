"""is_ownership and the keeper's certificate, [36]; shared_places and the lineages of owners, [37]."""

import copy
import random
import unittest

from tests.cases import WardCase
from tests.keepers import make, note_call, random_call, seen
from tests.values import NO_INTEGERS
from wardwork.keeper import Keeper
from wardwork.ownership import is_ownership, shared_places

F0, F1, F2, S0, S1 = ("frame", 0), ("frame", 1), ("frame", 2), ("slot", 0), ("slot", 1)
TABLES = [(0, [F0, None, S1]), (1, [F0, S0]), (5, [F2, None, S1, None])]
RIGHT = [(F0, [(0, 0), (1, 0)]), (F2, [(5, 0)]), (S0, [(1, 1)]), (S1, [(0, 2), (5, 2)])]
# Values in the place of a part of a certificate.
OTHERS = [True, False, None, 0, 1, 2, 3, 5, -1, 64, 10 ** 12 - 1, "", "frame", "slot", "0", [], (), [0], (0,), [F0], F0,
          ("frame", True), ("frame", False), ("slot", True), ["frame", 0], (0, 0), (1, 1), [0, 0], (True, 0), (0, False),
          [(0, 0)], ((0, 0),), [[0, 0]], [None], ("frame", 0, 0), ("frame",), (("frame", 0), [(0, 0)])]


def judged(certificate, tables=None, frames=3, slots=2):
    return is_ownership(certificate, TABLES if tables is None else tables, frames=frames, slots=slots)


def changed(value, path, part):
    """A copy of nested lists and tuples with another part at a path of indexes."""
    if not path:
        return part
    parts = list(value)
    parts[path[0]] = changed(parts[path[0]], path[1:], part)
    return parts if isinstance(value, list) else tuple(parts)


def paths(value, path=()):
    yield path, value
    if isinstance(value, (list, tuple)):
        for at, part in enumerate(value):
            yield from paths(part, path + (at,))


class OwnershipTest(WardCase):
    def test_right_certificates(self):
        self.assertIs(True, judged(RIGHT))
        self.assertIs(True, is_ownership(certificate=RIGHT, tables=TABLES, frames=64, slots=64))
        self.assertIs(True, judged([], []))
        self.assertIs(True, judged([], [(3, [None, None])], 0, 0))
        self.assertIs(True, judged([(("frame", 63), [(0, 0)])], [(0, [("frame", 63)])], 64, 0))
        self.assertIs(True, judged([(("slot", 63), [(0, 0)])], [(0, [("slot", 63)])], 0, 64))

    def test_the_order_of_rows_and_holders_is_free(self):
        chance = random.Random(0)
        for _ in range(50):
            rows = [(place, chance.sample(holders, len(holders))) for place, holders in RIGHT]
            chance.shuffle(rows)
            self.assertIs(True, judged(rows))
            tables = chance.sample(TABLES, len(TABLES))
            self.assertIs(True, judged(rows, tables))

    def test_no_list_of_pairs(self):
        for x in NO_INTEGERS + [tuple(RIGHT), "certificate", {}, (RIGHT,), [RIGHT], [tuple(RIGHT[0][0])]]:
            self.assertIs(x == [], judged(x, []), x)
            self.assertIs(False, judged(x), x)

    def test_one_wrong_part(self):
        """Any other value in one place makes the certificate wrong."""
        for path, part in paths(RIGHT):
            for other in OTHERS + [list(part) if isinstance(part, tuple) else part]:
                if repr(other) != repr(part):
                    self.assertIs(False, judged(changed(RIGHT, path, other)), (path, other))
            if isinstance(part, tuple):
                for other in (part + (0,), part[:-1], (), list(part)):
                    self.assertIs(False, judged(changed(RIGHT, path, other)), (path, other))
            if isinstance(part, list):
                self.assertIs(False, judged(changed(RIGHT, path, tuple(part))), path)

    def test_true_is_not_1(self):
        tables = [(1, [None, F1, ("slot", 1)]), (0, [F0])]
        right = [(F0, [(0, 0)]), (F1, [(1, 1)]), (S1, [(1, 2)])]
        self.assertIs(True, judged(right, tables))
        for path, part in paths(right):
            if isinstance(part, int) and part < 2:
                self.assertIs(False, judged(changed(right, path, bool(part)), tables), path)

    def test_rows_and_holders_too_many_or_too_few(self):
        for at, (place, holders) in enumerate(RIGHT):
            self.assertIs(False, judged(RIGHT[:at] + RIGHT[at + 1:]))
            self.assertIs(False, judged(RIGHT + [RIGHT[at]]))
            self.assertIs(False, judged(RIGHT + [(place, [])]))
            for row in [(place, []), (place, holders + holders[:1]), (place, holders[1:]), (place, holders + [(7, 0)]),
                        (place, holders + [(0, 1)]), (place, holders + [(0, 3)]), (place, holders + [(0, -1)]),
                        (place, holders + [(1, 1)]), (place,), (place, holders, 0), [place, holders]]:
                self.assertIs(False, judged(RIGHT[:at] + [row] + RIGHT[at + 1:]), row)
        for place in (F0, F1, S0, S1, ("frame", 3)):
            self.assertIs(False, judged(RIGHT + [(place, [])]))
            self.assertIs(False, judged(RIGHT + [(place, [(7, 0)])]))
            self.assertIs(False, judged([(place, [])], []))
            self.assertIs(False, judged([(place, [(0, 0)])], []))

    def test_a_place_in_two_rows(self):
        self.assertIs(False, judged([(F0, [(0, 0)]), (F0, [(1, 0)]), *RIGHT[1:]]))

    def test_a_holder_in_two_rows(self):
        self.assertIs(False, judged([*RIGHT, (F1, [(0, 0)])]))
        self.assertIs(False, judged([(F1, [(0, 0)]), *RIGHT]))

    def test_one_number_of_the_page_in_a_row(self):
        """An owner that holds a place twice, and two owners at different pages, have no certificate."""
        for tables in ([(0, [F0, F0])], [(0, [F0, None]), (1, [None, F0])]):
            holders = [(owner, page) for owner, table in tables for page, place in enumerate(table) if place]
            for row in (holders, holders[::-1], holders[:1], holders[1:]):
                self.assertIs(False, judged([(F0, row)], tables))
            self.assertIs(False, judged([(F0, holders[:1]), (F0, holders[1:])], tables))
            self.assertIs(False, judged([(F0, holders[:1]), (F1, holders[1:])], tables))

    def test_places_within_the_frames_and_slots(self):
        self.assertIs(False, judged(RIGHT, frames=2))
        self.assertIs(False, judged(RIGHT, slots=1))
        self.assertIs(False, judged(RIGHT, frames=0, slots=0))
        self.assertIs(False, judged(RIGHT, frames=0, slots=64))
        self.assertIs(False, judged(RIGHT, frames=64, slots=0))
        for place in (("frame", 3), ("slot", 2), ("frame", -1), ("slot", -1)):
            self.assertIs(False, judged([(place, [(0, 0)])], [(0, [place])]))

    def test_the_tables_are_those_of_another_keeper(self):
        for tables in ([], TABLES[:2], [*TABLES, (7, [F1])], [*TABLES[:2], (4, TABLES[2][1])],
                       [(0, [F0, S0, S1]), *TABLES[1:]], [(0, [F1, None, S1]), *TABLES[1:]],
                       [(0, [F0, None]), *TABLES[1:]], [(0, [F0, None, None]), *TABLES[1:]]):
            self.assertIs(False, judged(RIGHT, tables), tables)
        self.assertIs(True, judged(RIGHT, [*TABLES, (7, [None] * 16)]))
        self.assertIs(True, judged(RIGHT, [(0, [F0, None, S1, None]), *TABLES[1:]]))

    def test_nothing_is_changed(self):
        right, tables = copy.deepcopy(RIGHT), copy.deepcopy(TABLES)
        is_ownership(right, tables, frames=3, slots=2)
        shared_places(right)
        self.assertEqual((RIGHT, TABLES), (right, tables))


class KeeperTest(WardCase):
    def test_rows_and_holders_ascend(self):
        keeper = Keeper(12, 12)
        keeper.admit(6, 11, [1] * 88)
        keeper.admit(2, 1, [2])
        keeper.fork(2, 1)
        keeper.fork(2, 7)
        keeper.admit(0, 2, [0] * 16)
        self.same([(F0, [(0, 0)]), (F1, [(0, 1)])] + [(("frame", k), [(6, k)]) for k in range(2, 11)] +
                  [(("frame", 11), [(1, 0), (2, 0), (7, 0)]), (S0, [(6, 0)]), (S1, [(6, 1)])], keeper.certificate())
        self.same([], Keeper(1, 0).certificate())

    def test_the_certificate_is_accepted_and_is_the_only_one(self):
        for seed in range(25):
            chance = random.Random(seed)
            frames, slots = chance.choice([1, 2, 5]), chance.choice([0, 3, 11, 30])
            keeper, sizes = Keeper(frames, slots), {}
            for _ in range(80):
                row = random_call(chance, keeper, sizes)
                if row is None:
                    continue
                before = keeper.certificate()
                note_call(row, sizes)
                make(keeper, row)
                certificate = keeper.certificate()
                self.assertIs(True, is_ownership(certificate, keeper.tables(), frames=frames, slots=slots))
                self.assertEqual(sorted(certificate), certificate)
                self.assertTrue(all(holders == sorted(holders) for _, holders in certificate))
                self.assertIs(before == certificate,
                              is_ownership(before, keeper.tables(), frames=frames, slots=slots))


class SharedPlacesTest(WardCase):
    def test_rows_with_several_holders(self):
        self.same([F0, S1], shared_places(RIGHT))
        self.same([S1, F0], shared_places(certificate=RIGHT[::-1]))
        self.same([], shared_places([]))
        self.same([], shared_places(RIGHT[1:3]))

    def shared(self, keeper):
        return shared_places(keeper.certificate())

    def test_behind_forks_and_writes(self):
        keeper = Keeper(4, 8)
        keeper.admit(0, 2, [5] * 9)
        self.same([], self.shared(keeper))
        keeper.fork(0, 1)
        self.same([F0, F1], self.shared(keeper))
        # The same word is written, but it is another write.
        keeper.write(0, 0, 5)
        self.same([F1], self.shared(keeper))
        keeper.write(1, 0, 5)
        self.same([F1], self.shared(keeper))
        keeper.fork(1, 2)
        self.same([F0, F1], self.shared(keeper))
        keeper.dismiss(1)
        self.same([F1], self.shared(keeper))
        keeper.dismiss(2)
        self.same([], self.shared(keeper))

    def test_a_new_stay_of_a_number_is_another_owner(self):
        keeper = Keeper(4, 8)
        keeper.admit(0, 1, [5])
        keeper.fork(0, 1)
        keeper.dismiss(0)
        keeper.admit(0, 1, [5])
        self.same([], self.shared(keeper))
        keeper.dismiss(0)
        keeper.fork(1, 0)
        self.same([F0], self.shared(keeper))

    def test_blank_pages_are_not_shared(self):
        keeper = Keeper(4, 8)
        keeper.admit(0, 2)
        keeper.fork(0, 1)
        self.same([], self.shared(keeper))
        keeper.write(0, 0, 0)
        keeper.write(1, 0, 0)
        self.same([], self.shared(keeper))

    def test_who_shares_agrees_with_the_lineages(self):
        """Two owners share the place of a page exactly if the last write of the page is one write in both."""
        for seed in range(30):
            chance = random.Random(seed)
            keeper, sizes, last, number = Keeper(3, 40), {}, {}, 0
            for _ in range(150):
                row = random_call(chance, keeper, sizes)
                if row is None:
                    continue
                note_call(row, sizes)
                make(keeper, row)
                number += 1
                # For each owner the number of the call that wrote each page last.
                if row[0] == "admit":
                    last[row[1]] = {address // 8: number for address in range(len(row[3]))}
                elif row[0] == "fork":
                    last[row[2]] = dict(last[row[1]])
                elif row[0] == "write":
                    last[row[1]][row[2] // 8] = number
                tables = dict(keeper.tables())
                shared = self.shared(keeper)
                for one in sizes:
                    for other in sizes:
                        for page in range(min(sizes[one], sizes[other])):
                            same = last[one].get(page) == last[other].get(page) is not None
                            place = tables[one][page]
                            self.assertEqual(same, place is not None and place == tables[other][page])
                            self.assertTrue(not same or one == other or place in shared)

    def test_nothing_is_touched(self):
        keeper = Keeper(2, 2)
        keeper.admit(0, 2, [1] * 16)
        before = seen(keeper)
        self.shared(keeper)
        self.assertEqual(before, seen(keeper))


if __name__ == "__main__":
    unittest.main()
