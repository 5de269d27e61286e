"""Chains, [70], find_chain and books, [71], and the judges of them, [7]."""

import copy
import random
import unittest

from tests.cases import WardCase
from tests.test_rights import MARKS, NO_HOLDERS, NO_MARK, NO_MARKS, NO_THINGS, family
from tests.values import ANYTHING, no_integers_of
from wardwork.rights import Rights, find_chain, is_book, is_chain

ROOTS = [(0, 0, "a", "rwg"), (7, 1, "a", "rw")]
# The numbers along the chain 9, 2, 5, 0 do not ascend.
ROWS = [(0, 6, "x", "r", 5), (2, 1, "x", "rwg", 9), (5, 2, "x", "rg", 2), (9, 0, "x", "rwg", None), (12, 6, "x", "r", 9)]
MIXED_ROOTS = [(9, 0, "x", "rwg")]


def same_chain(chain, rows, roots, holder, thing, mark):
    """[70] word by word, for chains that are lists of numbers of rows."""
    links = [next(row for row in rows if row[0] == number) for number in chain]
    if not links or links[0][4] is not None:
        return False
    if not any(root[:3] == links[0][:3] and set(links[0][3]) <= set(root[3]) for root in roots):
        return False
    for row, after in zip(links, links[1:]):
        if after[4] != row[0] or after[2] != row[2] or "g" not in row[3] or not set(after[3]) <= set(row[3]):
            return False
    return links[-1][1:3] == (holder, thing) and mark in links[-1][3]


def replaced(rows, at, part, value):
    """The rows with another value at one place of one row."""
    row = rows[at]
    return rows[:at] + [row[:part] + (value,) + row[part + 1:]] + rows[at + 1:]


class ChainTest(WardCase):
    def test_right_chains(self):
        rows = family().rows()
        for chain, holder, marks in (([0], 0, "rwg"), ([0, 1], 1, "rwg"), ([0, 1, 3], 3, "rwg"), ([0, 1, 3, 5], 5, "rw"),
                                     ([0, 2], 2, "rg"), ([0, 2, 6], 6, "r"), ([0, 1, 4], 4, "w"), ([7], 1, "rw")):
            for mark in "rwg":
                self.assertIs(mark in marks, is_chain(chain, rows, ROOTS, holder, "a", mark), (chain, mark))
        self.assertIs(True, is_chain(chain=[0], rows=rows, roots=ROOTS, holder=0, thing="a", mark="r"))

    def test_numbers_that_do_not_ascend(self):
        self.assertIs(True, is_chain([9, 2, 5, 0], ROWS, MIXED_ROOTS, 6, "x", "r"))
        self.assertIs(True, is_chain([9, 12], ROWS, MIXED_ROOTS, 6, "x", "r"))
        for chain in ([9, 5, 0], [9, 2, 0], [2, 5, 0], [0], [5, 0], [9, 2, 5], [0, 5, 2, 9], [9, 9, 12], [9, 2, 5, 0, 0],
                      [9, 2, 12], [9, 12, 0]):
            self.assertIs(False, is_chain(chain, ROWS, MIXED_ROOTS, 6, "x", "r"), chain)

    def test_wrong_in_one_place(self):
        chain, rows = [0, 1, 3, 5], family().rows()
        self.assertIs(True, is_chain(chain, rows, ROOTS, 5, "a", "r"))
        for wrong in ((4, "a", "r"), (5, "b", "r"), (5, "a", "g"), (1, "a", "r")):
            self.assertIs(False, is_chain(chain, rows, ROOTS, *wrong), wrong)
        spoilt = [[], [0], [0, 1], [0, 1, 3], [1, 3, 5], [3, 5], [5], [0, 1, 5], [0, 3, 5], [0, 2, 3, 5], [0, 1, 4, 5],
                  [0, 0, 1, 3, 5], [0, 1, 3, 5, 5], [5, 3, 1, 0], [0, 1, 3, 8], [99, 0, 1, 3, 5], [0, 1, 3, 5, 7],
                  [7, 1, 3, 5], (0, 1, 3, 5), [(0, 1, 3, 5)], [0, 1, 3, "5"], [0, True, 3, 5], [False, 1, 3, 5],
                  [0, 1, 3, None], [0, [1], 3, 5], [0, (1,), 3, 5], [-1, 0, 1, 3, 5], [0, 1, 3, 5, []], 5, "0135",
                  [0, 1, 3, 10 ** 12 - 1], [[]], [[0, 1, 3, 5]]]
        for wrong in spoilt + ANYTHING:
            self.assertIs(False, is_chain(wrong, rows, ROOTS, 5, "a", "r"), wrong)

    def test_the_first_row_needs_a_root(self):
        rows = family().rows()
        for roots in ([], ROOTS[1:], [(1, 0, "a", "rwg")], [(0, 1, "a", "rwg")], [(0, 0, "b", "rwg")],
                      [(0, 0, "a", "rw")], [(0, 0, "a", "g")], [(0, 0, "a", "rw"), (0, 0, "a", "wg")],
                      [(0, 0, "a", "")]):
            self.assertIs(False, is_chain([0, 1], rows, roots, 1, "a", "r"), roots)
        # One of several roots with this number will do.
        several = [(0, 1, "a", "rwg"), (0, 0, "b", "rwg"), (0, 0, "a", "rw"), (0, 0, "a", "rwg"), (0, 0, "a", "r")]
        self.assertIs(True, is_chain([0, 1], rows, several, 1, "a", "r"))
        # The right may have lost marks that the root right had.
        rights = Rights()
        rights.root(0, "a", "rwg")
        rights.narrow(0, "w")
        self.assertIs(True, is_chain([0], rights.rows(), [(0, 0, "a", "rwg")], 0, "a", "w"))
        self.assertIs(True, is_chain([0], rights.rows(), [(0, 0, "a", "w")], 0, "a", "w"))
        self.assertIs(False, is_chain([0], rights.rows(), [(0, 0, "a", "r")], 0, "a", "w"))

    def test_every_short_chain_against_the_words(self):
        for rows, roots in ((ROWS, MIXED_ROOTS), (family().rows(), ROOTS)):
            numbers = [row[0] for row in rows]
            chains = [[one] for one in numbers] + [[one, two] for one in numbers for two in numbers]
            chains += [[one, two, three] for one in numbers for two in numbers for three in numbers]
            thing = rows[0][2]
            for chain in chains:
                holder = next(row[1] for row in rows if row[0] == chain[-1])
                for mark in "rg":
                    self.assertIs(same_chain(chain, rows, roots, holder, thing, mark),
                                  is_chain(chain, rows, roots, holder, thing, mark), chain)


class FindChainTest(WardCase):
    def test_the_least_number_that_will_do(self):
        rows = family().rows()
        self.same([0, 1], find_chain(rows, 1, "a", "r"))
        self.same([0, 1], find_chain(rows, holder=1, thing="a", mark="w"))
        self.same([0, 1, 3, 5], find_chain(rows, 5, "a", "w"))
        self.same([0, 2, 6], find_chain(rows, 6, "a", "r"))
        self.same([9, 2, 5, 0], find_chain(ROWS, 6, "x", "r"))
        self.same([9], find_chain(ROWS, 0, "x", "g"))
        # Only rows with the mark will do.
        rights = Rights()
        rights.root(0, "a", "w")
        rights.root(0, "b", "r")
        rights.root(1, "a", "r")
        rights.root(0, "a", "rg")
        rights.hand_on(3, 0, "r")
        self.same([3], find_chain(rights.rows(), 0, "a", "r"))

    def test_none_will_do(self):
        rows = family().rows()
        for question in ((7, "a", "r"), (4, "a", "r"), (6, "a", "g"), (0, "b", "r")):
            self.same([], find_chain(rows, *question))
        self.same([], find_chain([], 0, "a", "r"))

    def test_arguments_are_asked(self):
        rows = family().rows()
        wrong = {"holder": NO_HOLDERS, "thing": NO_THINGS, "mark": NO_MARK}
        self.refused(find_chain, {"rows": rows, "holder": 0, "thing": "a", "mark": "r"}, wrong)

    def test_lists_are_new(self):
        rows, kept = family().rows(), family().rows()
        find_chain(rows, 5, "a", "r").clear()
        is_chain([0, 1], rows, ROOTS, 1, "a", "r")
        is_book(rows, ROOTS)
        self.same(kept, rows)


class BookTest(WardCase):
    def test_right_books(self):
        self.assertIs(True, is_book([], []))
        self.assertIs(True, is_book(rows=[], roots=ROOTS))
        self.assertIs(True, is_book(family().rows(), ROOTS))
        self.assertIs(True, is_book(ROWS, MIXED_ROOTS))
        self.assertIs(True, is_book([(99, 7, "a" * 120, "rwg", None)], [(99, 7, "a" * 120, "rwg")]))
        rights, roots = Rights(), [(0, 0, "a", "rwg")]
        rights.root(0, "a")
        for number in range(99):
            rights.hand_on(number, number % 8, "rwg")
        self.assertIs(True, is_book(rights.rows(), roots))

    def test_wrong_shapes(self):
        rows = family().rows()
        wrong = {0: no_integers_of(0, 99), 1: NO_HOLDERS, 2: NO_THINGS, 3: NO_MARKS + [""],
                 4: [x for x in no_integers_of(0, 99) if x is not None]}
        for at in (0, 3, 7):
            for part, values in wrong.items():
                for value in values:
                    self.assertIs(False, is_book(replaced(rows, at, part, value), ROOTS), (at, part, value))
            for row in (list(rows[at]), rows[at][:4], rows[at] + (0,), rows[at] + (None,), (), None, 0, [rows[at]],
                        (rows[at],)):
                self.assertIs(False, is_book(rows[:at] + [row] + rows[at + 1:], ROOTS), row)
        for value in [tuple(rows), [rows], (rows,)] + ANYTHING:
            self.assertIs(False, is_book(value, ROOTS), value)
        # A number outside of the range, in its place among the others.
        self.assertIs(True, is_book(rows + [(99, 2, "a", "r", 1)], ROOTS))
        self.assertIs(False, is_book(rows + [(100, 2, "a", "r", 1)], ROOTS))
        self.assertIs(False, is_book([(-1, 2, "a", "r", 1)] + rows, ROOTS))

    def test_wrong_order(self):
        rows = family().rows()
        self.assertIs(False, is_book(rows[::-1], ROOTS))
        self.assertIs(False, is_book(rows + rows[-1:], ROOTS))
        self.assertIs(False, is_book(rows[:1] + rows, ROOTS))
        self.assertIs(False, is_book(rows[:2] + [rows[3], rows[2]] + rows[4:], ROOTS))
        self.assertIs(False, is_book(rows * 2, ROOTS))

    def test_rights_that_come_from_nowhere(self):
        rows = family().rows()
        for spoilt in (replaced(rows, 1, 4, None), replaced(rows, 1, 4, 8), replaced(rows, 1, 4, 99),
                       replaced(rows, 1, 4, 1), replaced(rows, 1, 4, 5), replaced(rows, 0, 4, 1),
                       replaced(rows, 0, 3, "rw"), replaced(rows, 3, 3, "rw"), replaced(rows, 6, 3, "rw"),
                       replaced(rows, 6, 3, "w"), replaced(rows, 6, 2, "b"), replaced(rows, 0, 2, "b"),
                       replaced(rows, 0, 1, 1), replaced(rows, 7, 1, 2), replaced(rows, 7, 3, "rwg"), rows[1:],
                       rows[:1] + rows[2:], replaced(rows, 7, 4, 6)):
            self.assertIs(False, is_book(spoilt, ROOTS), spoilt)
        # Rights without rights beneath them may be away, or be others.
        for sound in (rows[:7], replaced(rows, 5, 1, 0), replaced(rows, 7, 3, "r"), replaced(rows, 6, 3, "g"),
                      replaced(rows, 7, 4, 1), rows[:1], [rows[0], rows[2], rows[6]]):
            self.assertIs(True, is_book(sound, ROOTS), sound)

    def test_rings(self):
        for rows in ([(0, 0, "a", "rwg", 0)], [(0, 0, "a", "rwg", 1), (1, 0, "a", "rwg", 0)],
                     [(number, 0, "a", "rwg", (number + 1) % 100) for number in range(100)]):
            self.assertIs(False, is_book(rows, [(0, 0, "a", "rwg")]))

    def test_other_roots(self):
        for roots in ([], ROOTS[:1], ROOTS[1:], [(0, 0, "a", "rw"), ROOTS[1]], [ROOTS[0], (7, 1, "a", "r")],
                      [(0, 0, "a", "r"), (0, 0, "a", "wg"), ROOTS[1]]):
            self.assertIs(False, is_book(family().rows(), roots), roots)
        more = [(0, 0, "a", "r"), (7, 7, "a", "rwg"), (50, 0, "a", "r"), ROOTS[1], ROOTS[0]]
        self.assertIs(True, is_book(family().rows(), more))

    def test_random_books_against_the_words(self):
        told = []
        for seed in range(400):
            chance = random.Random(seed)
            rights, roots = Rights(), []
            for _ in range(chance.randrange(1, 8)):
                givers = [row for row in rights if "g" in row[3]]
                if givers and chance.randrange(3):
                    giver = chance.choice(givers)
                    rights.hand_on(giver[0], chance.randrange(3), chance.choice([giver[3], giver[3][:1]]))
                else:
                    marks = chance.choice(MARKS[1:])
                    roots.append((rights.root(0, "a", marks), 0, "a", marks))
            rows = rights.rows()
            for _ in range(chance.randrange(3)):
                part, value = chance.choice([(1, chance.randrange(3)), (3, chance.choice(MARKS[1:])),
                                             (4, chance.choice([None, *range(len(rows))]))])
                rows = replaced(rows, chance.randrange(len(rows)), part, value)
            kept = copy.deepcopy(rows)
            told.append(is_book(rows, roots))
            self.assertIs(self.book(rows, roots), told[-1], rows)
            self.same(kept, rows)
        self.assertTrue(100 < sum(told) < 350, sum(told))

    def book(self, rows, roots):
        table = {row[0]: row for row in rows}
        for row in rows:
            chain, above = [row[0]], row[4]
            while above in table and above not in chain:
                chain.insert(0, above)
                above = table[above][4]
            if not all(same_chain(chain, rows, roots, row[1], row[2], mark) for mark in row[3]):
                return False
        return True


if __name__ == "__main__":
    unittest.main()
