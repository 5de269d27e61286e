"""Keeper, [31] to [34], and its saved states, [8]."""

import copy
import random
import unittest

from tests.cases import WardCase
from tests.keepers import Model, make, note_call, random_call, seen
from tests.values import NO_INTEGERS, NO_WORDS, is_plain, no_integers_of, no_words_of, spoil
from wardwork.errors import Full, Taken, Unknown
from wardwork.keeper import Keeper

NO_PIDS = no_integers_of(0, 7)
NO_PAGES = no_integers_of(1, 16)
F0, F1, F2, F3 = [("frame", k) for k in range(4)]
S0, S1, S2, S3 = [("slot", k) for k in range(4)]


def no_first_words_of(most):
    """Wrong values for a list or a tuple of at most so many words."""
    return [x for x in no_words_of(0, most) if not isinstance(x, tuple) or x and len(x) > most] + [
        (0,) * (most + 1), (True,), (0, -1), (65536,), ("0",), ([0],)]


def keeper_of(frames, slots, *owners):
    """A keeper with the owners 0, 1, .. of these numbers of pages, all blank."""
    keeper = Keeper(frames, slots)
    for owner, pages in enumerate(owners):
        keeper.admit(owner, pages)
    return keeper


class MakingTest(WardCase):
    def test_the_numbers_of_frames_and_slots(self):
        for frames in (1, 2, 31, 32):
            for slots in (0, 1, 63, 64):
                keeper = Keeper(frames, slots)
                self.same(frames + slots, keeper.room_left)
                self.same((0, 0), keeper.moves)
                self.same([], keeper.tables())
                self.same([], keeper.certificate())
        self.assertEqual(3, Keeper(frames=2, slots=1).room_left)

    def test_arguments_are_asked(self):
        wrong = {"frames": no_integers_of(1, 32), "slots": no_integers_of(0, 64)}
        self.refused(Keeper, {"frames": 1, "slots": 0}, wrong)


class AdmitTest(WardCase):
    def test_pages_are_blank_at_first(self):
        keeper = Keeper(1, 23)
        self.assertIsNone(keeper.admit(3))
        self.assertIsNone(keeper.admit(owner=0, pages=16, words=[]))
        self.assertEqual([0] * 32, keeper.contents(3))
        self.assertEqual([0] * 128, keeper.contents(0))
        self.assertEqual([(0, [None] * 16), (3, [None] * 4)], keeper.tables())
        self.assertEqual((4, (0, 0)), (keeper.room_left, keeper.moves))

    def test_eight_owners(self):
        keeper = keeper_of(1, 7, *[1] * 8)
        for owner in range(8):
            keeper.write(owner, owner, 10 + owner)
        for owner in range(8):
            self.assertEqual(10 + owner, keeper.contents(owner)[owner])
        self.same([(owner, [("slot", owner)]) for owner in range(7)] + [(7, [F0])], keeper.tables())
        self.assertEqual((0, (0, 7)), (keeper.room_left, keeper.moves))

    def test_words_are_written_one_by_one(self):
        keeper = Keeper(2, 2)
        keeper.admit(1, 3, [5, 6, 7, 8, 9, 10, 11, 12, 13])
        self.same([F0, F1, None], keeper.table(1))
        self.same([*range(5, 14)] + [0] * 15, keeper.contents(1))
        self.same((0, 0), keeper.moves)
        keeper = Keeper(1, 2)
        keeper.admit(7, 3, tuple(range(100, 124)))
        self.same([S0, S1, F0], keeper.table(7))
        self.same([*range(100, 124)], keeper.contents(7))
        self.same((0, 2), keeper.moves)

    def test_a_word_0_makes_a_sheet(self):
        keeper = Keeper(2, 2)
        keeper.admit(0, 2, [0])
        self.same([F0, None], keeper.table(0))
        keeper.admit(1, 2, [0] * 9)
        self.same([(0, [S0, None]), (1, [F1, F0])], keeper.tables())
        self.same((0, 1), keeper.moves)

    def test_the_list_is_not_kept(self):
        words = [1, 2, 3]
        keeper = Keeper(2, 0)
        keeper.admit(0, 1, words)
        words[0] = 9
        words.clear()
        self.assertEqual([1, 2, 3], keeper.contents(0)[:3])
        words.extend([4, 5])
        keeper.admit(1, 1, words)
        keeper.write(1, 0, 6)
        self.assertEqual([4, 5], words)

    def test_arguments_are_asked(self):
        wrong = {"owner": NO_PIDS, "pages": NO_PAGES, "words": no_first_words_of(16)}
        keeper = keeper_of(1, 1, 2)
        for owner in (0, 5):
            self.refused(keeper.admit, {"owner": owner, "pages": 2, "words": [1]}, wrong, lambda: seen(keeper))

    def test_as_many_words_as_the_pages_hold(self):
        for pages in (1, 2, 16):
            keeper = Keeper(32, 0)
            for words in ([7] * (8 * pages + 1), (7,) * (8 * pages + 1)):
                self.refused(keeper.admit, {"owner": 0, "pages": pages, "words": [7]}, {"words": [words]},
                             lambda: seen(keeper))
            keeper.admit(0, pages, [7] * (8 * pages))
            self.assertEqual([7] * (8 * pages), keeper.contents(0))

    def test_taken_and_full(self):
        keeper = keeper_of(2, 3, 3)
        before = seen(keeper)
        self.raised(Full, {"what": "keeper"}, keeper.admit, 1, 3)
        self.raised(Full, {"what": "keeper"}, keeper.admit, 1)
        self.raised(Full, {"what": "keeper"}, keeper.admit, 1, 16, [1] * 128)
        self.raised(Taken, {"what": 0}, keeper.admit, 0, 2)
        self.raised(Taken, {"what": 0}, keeper.admit, 0, 3)
        self.raised(Taken, {"what": 0}, keeper.admit, 0, 16, [1])
        self.assertEqual(before, seen(keeper))
        keeper.admit(1, 2, [1] * 16)
        self.assertEqual(0, keeper.room_left)
        self.raised(Full, {"what": "keeper"}, keeper.admit, 2, 1)
        self.raised(Full, {"what": "keeper"}, Keeper(1, 0).admit, 0, 2)


class ForkTest(WardCase):
    def test_a_child_shares_the_sheets(self):
        keeper = Keeper(2, 4)
        keeper.admit(0, 3, [1] * 8 + [2] * 8)
        self.assertIsNone(keeper.fork(0, 5))
        self.same([(0, [F0, F1, None]), (5, [F0, F1, None])], keeper.tables())
        self.assertEqual(keeper.contents(0), keeper.contents(5))
        self.assertEqual((0, (0, 0)), (keeper.room_left, keeper.moves))

    def test_a_fork_moves_and_touches_nothing(self):
        keeper = Keeper(2, 6)
        keeper.admit(0, 2, [1] * 9)
        keeper.admit(1, 1, [1])
        self.same([(0, [S0, F1]), (1, [F0])], keeper.tables())
        keeper.fork(parent=0, child=2)
        self.same([(0, [S0, F1]), (1, [F0]), (2, [S0, F1])], keeper.tables())
        self.assertEqual((0, 1), keeper.moves)
        # Frame 1 was touched longer ago than frame 0, the fork did not touch it.
        keeper.admit(3, 1, [1])
        self.same([(0, [S0, S1]), (1, [F0]), (2, [S0, S1]), (3, [F1])], keeper.tables())

    def test_a_fork_of_a_fork(self):
        keeper = Keeper(3, 9)
        keeper.admit(0, 2, [1, 2])
        keeper.fork(0, 1)
        keeper.fork(1, 2)
        keeper.fork(2, 3)
        self.same([F0, None], keeper.table(3))
        keeper.write(1, 0, 9)
        keeper.write(3, 9, 8)
        self.same([(0, [F0, None]), (1, [F1, None]), (2, [F0, None]), (3, [F0, F2])], keeper.tables())
        self.assertEqual([[1, 2], [9, 2], [1, 2], [1, 2]], [keeper.contents(owner)[:2] for owner in range(4)])
        keeper.fork(1, 4)
        self.same([F1, None], keeper.table(4))
        self.assertEqual(2, keeper.room_left)

    def test_a_child_has_pages_of_its_own(self):
        keeper = Keeper(4, 4)
        keeper.admit(0, 2, [1] * 16)
        keeper.fork(0, 1)
        keeper.write(0, 8, 2)
        self.assertEqual([1] * 16, keeper.contents(1))
        keeper.write(1, 0, 3)
        self.assertEqual([1] * 8 + [2] + [1] * 7, keeper.contents(0))
        self.assertEqual([3] + [1] * 15, keeper.contents(1))

    def test_which_error_goes_first(self):
        keeper = keeper_of(2, 1, 2)
        keeper.admit(1, 1)
        before = seen(keeper)
        self.raised(Unknown, {"what": 5}, keeper.fork, 5, 6)
        self.raised(Unknown, {"what": 5}, keeper.fork, 5, 5)
        self.raised(Unknown, {"what": 5}, keeper.fork, 5, 0)
        self.raised(Taken, {"what": 0}, keeper.fork, 0, 0)
        self.raised(Taken, {"what": 1}, keeper.fork, 0, 1)
        self.raised(Full, {"what": "keeper"}, keeper.fork, 0, 2)
        self.raised(Full, {"what": "keeper"}, keeper.fork, 1, 2)
        self.assertEqual(before, seen(keeper))
        keeper = keeper_of(2, 2, 2)
        keeper.fork(0, 7)
        self.assertEqual(0, keeper.room_left)
        self.raised(Taken, {"what": 0}, keeper.fork, 0, 0)

    def test_arguments_are_asked(self):
        keeper = keeper_of(1, 5, 2)
        for parent in (0, 5):
            self.refused(keeper.fork, {"parent": parent, "child": 1}, {"parent": NO_PIDS, "child": NO_PIDS},
                         lambda: seen(keeper))


class DismissTest(WardCase):
    def test_places_become_free(self):
        keeper = Keeper(2, 3)
        keeper.admit(0, 2, [1] * 16)
        keeper.admit(1, 2, [2] * 16)
        self.same([(0, [S0, S1]), (1, [F0, F1])], keeper.tables())
        self.assertIsNone(keeper.dismiss(0))
        self.assertEqual([False, True], [owner in keeper for owner in (0, 1)])
        self.assertEqual((3, (0, 2)), (keeper.room_left, keeper.moves))
        keeper.admit(2, 1, [3])
        self.same([(1, [S0, F1]), (2, [F0])], keeper.tables())
        keeper.dismiss(owner=2)
        keeper.read(1, 0)
        self.same([(1, [F0, F1])], keeper.tables())
        self.assertEqual((1, 3), keeper.moves)

    def test_sheets_with_other_sharers_stay(self):
        keeper = Keeper(2, 4)
        keeper.admit(0, 2, [1] * 16)
        keeper.fork(0, 1)
        keeper.write(1, 0, 9)
        self.same([(0, [S0, F1]), (1, [F0, F1])], keeper.tables())
        keeper.dismiss(0)
        self.same([(1, [F0, F1])], keeper.tables())
        self.assertEqual([9] + [1] * 15, keeper.contents(1))
        # Nobody else has the sheet of frame 1 any more, so it is written where it stands.
        keeper.write(1, 8, 8)
        self.same([F0, F1], keeper.table(1))
        self.assertEqual(4, keeper.room_left)

    def test_a_sheet_that_is_gone_is_no_victim(self):
        keeper = Keeper(2, 2)
        keeper.admit(0, 1, [1])
        keeper.admit(1, 1, [2])
        keeper.dismiss(0)
        keeper.admit(2, 1, [3])
        self.same([(1, [F1]), (2, [F0])], keeper.tables())
        keeper.admit(3, 1, [4])
        self.same([(1, [S0]), (2, [F0]), (3, [F1])], keeper.tables())

    def test_the_last_owner(self):
        keeper = keeper_of(1, 1, 2)
        keeper.write(0, 0, 1)
        keeper.dismiss(0)
        self.same(([], [], 2, (0, 0)), (keeper.tables(), keeper.certificate(), keeper.room_left, keeper.moves))


class PlacesTest(WardCase):
    def test_reads_and_writes_of_blank_pages(self):
        keeper = keeper_of(2, 3, 3)
        self.same(0, keeper.read(0, 0))
        self.same(0, keeper.read(owner=0, address=23))
        self.same([None] * 3, keeper.table(0))
        self.assertIsNone(keeper.write(0, 23, 65535))
        self.same([None, None, F0], keeper.table(0))
        self.assertIsNone(keeper.write(owner=0, address=0, word=0))
        self.same([F1, None, F0], keeper.table(0))
        self.same(65535, keeper.read(0, 23))
        self.same([0] * 23 + [65535], keeper.contents(0))
        self.same((0, 0), keeper.moves)

    def test_a_page_with_one_sharer_is_written_where_it_stands(self):
        keeper = keeper_of(2, 3, 2)
        keeper.write(0, 0, 1)
        keeper.write(0, 0, 2)
        keeper.write(0, 7, 3)
        self.same([F0, None], keeper.table(0))
        self.same([2, 0, 0, 0, 0, 0, 0, 3], keeper.contents(0)[:8])

    def test_a_page_with_several_sharers_is_copied(self):
        for word in (1, 5):
            keeper = Keeper(3, 3)
            keeper.admit(0, 1, [5, 6, 7])
            keeper.fork(0, 1)
            keeper.fork(0, 2)
            keeper.write(1, 0, word)
            self.same([(0, [F0]), (1, [F1]), (2, [F0])], keeper.tables())
            self.same([word, 6, 7, 0, 0, 0, 0, 0], keeper.contents(1))
            keeper.write(0, 0, word)
            self.same([(0, [F2]), (1, [F1]), (2, [F0])], keeper.tables())
            self.same([5, 6, 7, 0, 0, 0, 0, 0], keeper.contents(2))
            # The last sharer has the sheet alone.
            keeper.write(2, 0, word)
            self.same([(0, [F2]), (1, [F1]), (2, [F0])], keeper.tables())

    def test_the_least_recently_touched_frame_goes_out(self):
        for touches, victim in (([], 0), ([0], 1), ([0, 1], 2), ([2, 1, 0], 2), ([1, 0, 2, 1], 0), ([0, 2], 1)):
            for call in ("read", "write"):
                keeper = keeper_of(3, 1, 1, 1, 1, 1)
                for owner in range(3):
                    keeper.write(owner, 0, 1)
                for owner in touches:
                    keeper.read(owner, 3) if call == "read" else keeper.write(owner, 3, 7)
                keeper.write(3, 0, 1)
                self.same([S0], keeper.table(victim))
                self.same([("frame", victim)], keeper.table(3))
                self.same((0, 1), keeper.moves)

    def test_touches_of_several_sharers_are_touches_of_one_sheet(self):
        keeper = Keeper(2, 4)
        keeper.admit(0, 1, [1])
        keeper.fork(0, 1)
        keeper.admit(2, 1, [2])
        keeper.read(1, 0)
        keeper.admit(3, 1, [3])
        self.same([(0, [F0]), (1, [F0]), (2, [S0]), (3, [F1])], keeper.tables())
        # Now the shared one is the oldest, and both sharers follow it out and in.
        keeper.read(2, 0)
        self.same([(0, [S0]), (1, [S0]), (2, [F0]), (3, [F1])], keeper.tables())
        keeper.read(1, 0)
        self.same([(0, [F1]), (1, [F1]), (2, [F0]), (3, [S0])], keeper.tables())
        self.same((2, 3), keeper.moves)

    def test_bringing_in_frees_its_slot_first(self):
        keeper = keeper_of(1, 1, 1, 1)
        keeper.write(0, 0, 10)
        keeper.write(1, 0, 11)
        self.same([(0, [S0]), (1, [F0])], keeper.tables())
        self.same(10, keeper.read(0, 0))
        self.same([(0, [F0]), (1, [S0])], keeper.tables())
        self.same((1, 2), keeper.moves)
        keeper.write(1, 1, 12)
        self.same([(0, [S0]), (1, [F0])], keeper.tables())
        self.same([[10] + [0] * 7, [11, 12] + [0] * 6], [keeper.contents(owner) for owner in (0, 1)])
        self.same((2, 3), keeper.moves)

    def test_the_victim_goes_into_the_lowest_free_slot(self):
        def filled():
            keeper = keeper_of(1, 3, 1, 1, 1, 1)
            for owner in range(4):
                keeper.write(owner, 0, owner)
            self.same([(0, [S0]), (1, [S1]), (2, [S2]), (3, [F0])], keeper.tables())
            return keeper

        keeper = filled()
        keeper.read(2, 0)
        self.same([(0, [S0]), (1, [S1]), (2, [F0]), (3, [S2])], keeper.tables())
        keeper = filled()
        keeper.dismiss(0)
        keeper.read(2, 0)
        self.same([(1, [S1]), (2, [F0]), (3, [S0])], keeper.tables())
        keeper = filled()
        keeper.dismiss(2)
        keeper.read(0, 0)
        self.same([(0, [F0]), (1, [S1]), (3, [S0])], keeper.tables())
        keeper = filled()
        keeper.dismiss(3)
        keeper.read(1, 0)
        self.same([(0, [S0]), (1, [F0]), (2, [S2])], keeper.tables())
        self.same((1, 3), keeper.moves)

    def test_a_free_frame_is_taken_ahead_of_a_victim(self):
        keeper = keeper_of(2, 2, 1, 1, 1, 1)
        for owner in range(3):
            keeper.write(owner, 0, 1)
        self.same([(0, [S0]), (1, [F1]), (2, [F0]), (3, [None])], keeper.tables())
        keeper.dismiss(2)
        keeper.read(0, 0)
        self.same([(0, [F0]), (1, [F1]), (3, [None])], keeper.tables())
        self.same((1, 1), keeper.moves)
        keeper.dismiss(0)
        keeper.dismiss(1)
        keeper.write(3, 0, 1)
        self.same([(3, [F0])], keeper.tables())

    def test_the_old_sheet_may_be_the_victim(self):
        keeper = Keeper(1, 2)
        keeper.admit(0, 1, [5, 6])
        keeper.fork(0, 1)
        keeper.write(1, 0, 7)
        self.same([(0, [S0]), (1, [F0])], keeper.tables())
        self.same((0, 1), keeper.moves)
        self.same([[5, 6], [7, 6]], [keeper.contents(owner)[:2] for owner in (0, 1)])
        # Its last sharer has it alone, so it is brought in.
        keeper.write(0, 1, 8)
        self.same([(0, [F0]), (1, [S0])], keeper.tables())
        self.same((1, 2), keeper.moves)

    def test_the_old_sheet_is_neither_brought_in_nor_touched(self):
        keeper = Keeper(2, 6)
        keeper.admit(0, 1, [5])
        keeper.fork(0, 1)
        keeper.fork(0, 2)
        keeper.admit(3, 1, [6])
        keeper.write(1, 1, 1)
        # The old sheet was the oldest and went out.
        self.same([(0, [S0]), (1, [F0]), (2, [S0]), (3, [F1])], keeper.tables())
        self.same((0, 1), keeper.moves)
        # From a slot it is copied without a move of its own.
        keeper.write(2, 1, 2)
        self.same([(0, [S0]), (1, [F0]), (2, [F1]), (3, [S1])], keeper.tables())
        self.same((0, 2), keeper.moves)
        self.same([[5, 0], [5, 1], [5, 2], [6, 0]], [keeper.contents(owner)[:2] for owner in range(4)])
        keeper = Keeper(3, 3)
        keeper.admit(0, 1, [5])
        keeper.admit(1, 1, [6])
        keeper.fork(0, 2)
        keeper.write(2, 0, 1)
        keeper.admit(3, 1, [7])
        # The copy touched the new sheet, not the old one, which is still the oldest.
        self.same([(0, [S0]), (1, [F1]), (2, [F2]), (3, [F0])], keeper.tables())

    def test_without_slots(self):
        keeper = keeper_of(4, 0, 2)
        keeper.write(0, 0, 1)
        keeper.write(0, 8, 2)
        keeper.fork(0, 1)
        keeper.write(1, 0, 3)
        keeper.write(1, 8, 4)
        self.same([(0, [F0, F1]), (1, [F2, F3])], keeper.tables())
        self.raised(Full, {"what": "keeper"}, keeper.admit, 2, 1)
        keeper.write(0, 0, 5)
        self.same((0, 0), keeper.moves)

    def test_a_keeper_that_is_full_to_the_last_place(self):
        keeper = Keeper(1, 7)
        keeper.admit(0, 4, [*range(32)])
        keeper.fork(0, 1)
        self.assertEqual(0, keeper.room_left)
        for address in range(0, 32, 8):
            keeper.write(1, address, 100 + address)
        places = [place for _, table in keeper.tables() for place in table]
        self.assertEqual([F0] + [("slot", k) for k in range(7)], sorted(places))
        for owner in (0, 1):
            for address in range(32):
                right = 100 + address if owner and address % 8 == 0 else address
                self.assertEqual(right, keeper.read(owner, address))
        keeper.dismiss(0)
        self.assertEqual(4, keeper.room_left)
        keeper.fork(1, 2)
        self.assertEqual(keeper.contents(1), keeper.contents(2))

    def test_random_calls_agree_with_the_model(self):
        for seed in range(60):
            chance = random.Random(seed)
            frames, slots = chance.choice([1, 1, 2, 3, 5, 8, 32]), chance.choice([0, 1, 2, 5, 9, 20, 64])
            keeper, model, sizes = Keeper(frames, slots), Model(frames, slots), {}
            for _ in range(250):
                row = random_call(chance, keeper, sizes)
                if row is None:
                    continue
                note_call(row, sizes)
                self.same(make(model, row), make(keeper, row))
                self.same(model.tables(), keeper.tables())
                self.same(model.moves, keeper.moves)
                self.same(model.room_left(), keeper.room_left)
                for owner in sizes:
                    self.same(model.contents(owner), keeper.contents(owner))

    def test_each_owner_reads_as_if_it_were_alone(self):
        chance = random.Random(1)
        keeper, words = keeper_of(2, 10, 3, 3, 3, 3), {owner: [0] * 24 for owner in range(4)}
        for _ in range(600):
            owner, address = chance.randrange(4), chance.randrange(24)
            if chance.randrange(40) == 0:
                other = (owner + 1) % 4
                keeper.dismiss(other)
                keeper.fork(owner, other)
                words[other] = list(words[owner])
            elif chance.randrange(2):
                words[owner][address] = chance.randrange(65536)
                keeper.write(owner, address, words[owner][address])
            self.assertEqual(words[owner][address], keeper.read(owner, address))
            for one in range(4):
                self.assertEqual(words[one], keeper.contents(one))


class ErrorsTest(WardCase):
    """Which errors the methods with an owner raise."""

    def test_an_owner_that_is_not_there(self):
        keeper = keeper_of(1, 3, 2)
        before = seen(keeper)
        for owner in (1, 7):
            for method in (keeper.dismiss, keeper.contents, keeper.table):
                self.raised(Unknown, {"what": owner}, method, owner)
            for address in [0, 15, 16, -1] + NO_INTEGERS:
                self.raised(Unknown, {"what": owner}, keeper.read, owner, address)
                self.raised(Unknown, {"what": owner}, keeper.write, owner, address, 5)
                self.refused(keeper.write, {"owner": owner, "address": address, "word": 5}, {"word": NO_WORDS},
                             lambda: seen(keeper))
        keeper.dismiss(0)
        self.raised(Unknown, {"what": 0}, keeper.read, 0, 0)
        self.raised(Unknown, {"what": 0}, keeper.write, 0, 0, 0)
        self.raised(Unknown, {"what": 0}, keeper.dismiss, 0)
        keeper.admit(0, 2)
        self.assertEqual(before, seen(keeper))

    def test_arguments_are_asked(self):
        keeper = keeper_of(1, 3, 2)
        keeper.write(0, 0, 5)
        for owner in (0, 4):
            for method in (keeper.dismiss, keeper.contents, keeper.table):
                self.refused(method, {"owner": owner}, {"owner": NO_PIDS}, lambda: seen(keeper))
        wrong = {"owner": NO_PIDS, "address": no_integers_of(0, 15), "word": NO_WORDS}
        self.refused(keeper.read, {"owner": 0, "address": 0}, {name: wrong[name] for name in ("owner", "address")},
                     lambda: seen(keeper))
        self.refused(keeper.write, {"owner": 0, "address": 15, "word": 0}, wrong, lambda: seen(keeper))

    def test_the_addresses_are_those_of_the_owner(self):
        keeper = keeper_of(2, 30, 1, 16)
        for owner, pages in ((0, 1), (1, 16)):
            keeper.write(owner, 8 * pages - 1, 3)
            self.assertEqual(3, keeper.read(owner, 8 * pages - 1))
            self.refused(keeper.read, {"owner": owner, "address": 0}, {"address": no_integers_of(0, 8 * pages - 1)})


class QuestionsTest(WardCase):
    def test_questions_touch_and_move_nothing(self):
        def after(asks):
            keeper = keeper_of(2, 2, 1, 1, 1, 1)
            for owner in range(3):
                keeper.write(owner, 0, owner)
            if asks:
                # Frame 1 is the oldest; these must not make it younger.
                for _ in range(3):
                    seen(keeper)
                    keeper.contents(owner=1)
                    keeper.table(owner=1)
                    self.assertIn(1, keeper)
                    keeper.restored(keeper.state())
            keeper.write(3, 0, 9)
            return seen(keeper)

        self.assertEqual(after(False), after(True))
        self.assertEqual([(0, [S0]), (1, [S1]), (2, [F0]), (3, [F1])], after(True)[3])

    def test_tables_ascend(self):
        keeper = Keeper(4, 4)
        for owner in (5, 2, 7):
            keeper.admit(owner, 1, [owner])
        keeper.fork(7, 0)
        self.same([(0, [F2]), (2, [F1]), (5, [F0]), (7, [F2])], keeper.tables())

    def test_room_left_counts_blank_pages_and_each_page(self):
        keeper = Keeper(3, 7)
        keeper.admit(0, 3)
        self.assertEqual(7, keeper.room_left)
        keeper.write(0, 0, 1)
        self.assertEqual(7, keeper.room_left)
        keeper.fork(0, 1)
        self.assertEqual(4, keeper.room_left)
        keeper.dismiss(0)
        self.assertEqual(7, keeper.room_left)

    def test_in_for_every_plain_value(self):
        keeper = Keeper(1, 3)
        for owner in (0, 1):
            keeper.admit(owner, 1)
        self.same([True, True, False], [owner in keeper for owner in (0, 1, 2)])
        for x in NO_INTEGERS + [-1, 8, 10 ** 12 - 1, [[0]], ((1,),), [(0, 1)], "owner"]:
            self.assertIs(False, x in keeper, x)

    def test_lists_are_not_handed_out(self):
        keeper = Keeper(2, 2)
        keeper.admit(0, 2, [1])
        before = seen(keeper)
        for told in (keeper.contents(0), keeper.table(0), keeper.tables(), keeper.tables()[0][1],
                     keeper.certificate(), keeper.certificate()[0][1]):
            told.clear()
        self.assertEqual(before, seen(keeper))
        self.assertIsInstance(keeper.moves, tuple)


class StateTest(WardCase):
    def test_a_restored_object_goes_on_alike(self):
        for seed in range(25):
            chance = random.Random(seed)
            first, sizes = Keeper(chance.randrange(1, 6), chance.randrange(0, 20)), {}
            self.go_on(chance, first, sizes, chance.randrange(80))
            before = seen(first)
            state = first.state()
            self.assertTrue(is_plain(state))
            kept = copy.deepcopy(state)
            second = Keeper.restored(state)
            self.same(before, seen(second))
            self.same(state, second.state())
            later = dict(sizes)
            rows = self.go_on(chance, second, later, 80)
            self.same(kept, state)
            self.same(before, seen(first))
            self.same([told for _, told in rows], [make(first, row) for row, _ in rows])
            self.same(seen(second), seen(first))
            self.same(before, seen(Keeper.restored(kept)))

    def go_on(self, chance, keeper, sizes, many):
        """Makes random calls and returns the pairs of a call and its answer."""
        rows = []
        for _ in range(many):
            row = random_call(chance, keeper, sizes)
            if row is not None:
                note_call(row, sizes)
                rows.append((row, make(keeper, row)))
        return rows

    def test_changing_a_state_changes_nothing(self):
        keeper = Keeper(2, 4)
        keeper.admit(0, 3, [1] * 17)
        before = seen(keeper)
        state = keeper.state()
        second = Keeper.restored(state)
        third = keeper.restored(copy.deepcopy(state))
        spoil(state)
        self.assertEqual([before] * 3, [seen(one) for one in (keeper, second, third)])
        second.write(0, 0, 5)
        second.dismiss(0)
        self.assertEqual([before] * 2, [seen(one) for one in (keeper, third)])
        self.assertIsInstance(second, Keeper)

    def test_an_empty_object(self):
        keeper = Keeper.restored(Keeper(32, 64).state())
        self.same(seen(Keeper(32, 64)), seen(keeper))


if __name__ == "__main__":
    unittest.main()
