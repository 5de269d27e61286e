"""Wait lists, rings, orders and cycles, [41] to [44]."""

import copy
import itertools
import random
import unittest

from tests.cases import WardCase
from tests.values import NO_INTEGERS
from wardwork.waits import find_cycle, find_order, find_ring, is_cycle, is_order, is_ring

WAITS = [(0, [1]), (1, [0]), (2, [0, 3])]
# 4 waits for 5 and 5 for itself or 6, which waits for 4 alone; 7 waits for 8, which can go on.
KNOT = [(6, [4]), (4, [5]), (7, [8]), (5, [5, 6]), (9, [4, 7]), (10, [])]
LONG = [(99 - k, [99 - k - 1, 99]) for k in range(15)] + [(84, list(range(84, 100)))]
NO_LISTS = [x for x in NO_INTEGERS if not isinstance(x, list)] + [0, 1, -1, "ring", (0, 1)]
NO_PIDS = [True, False, None, "", "0", "1", [], [0], [1], (), (0,), (1,), [[0]], -1, 100, 10 ** 12 - 1]


def goes_on(waits):
    """The pids that occur and can go on, by the rule of [41]."""
    others = dict(waits)
    occur = {pid for pid, _ in waits} | {other for _, pids in waits for other in pids}
    going = set()
    while True:
        more = {pid for pid in occur if not others.get(pid) or going & set(others[pid])}
        if more == going:
            return occur, going
        going = more


def random_waits(chance, pids=6, most=5):
    waits = [(pid, chance.sample(range(pids), chance.randrange(min(most, pids) + 1))) for pid in range(pids)]
    return chance.sample(waits, chance.randrange(pids + 1))


class RingTest(WardCase):
    def test_the_greatest_ring(self):
        self.same([0, 1], find_ring(WAITS))
        self.same([4, 5, 6], find_ring(waits=KNOT))
        self.same([], find_ring([]))
        self.same([], find_ring([(0, [])]))
        self.same([], find_ring([(0, [1])]))
        self.same([5], find_ring([(5, [5])]))
        self.same([], find_ring([(5, [5, 6])]))
        self.same([], find_ring([(5, [6]), (6, [])]))
        self.same([1, 2, 3], find_ring([(3, [2]), (2, [1]), (1, [2])]))
        self.same([], find_ring([(3, [2]), (2, [1, 4]), (1, [2])]))
        self.same(list(range(84, 100)), find_ring(LONG))
        self.same([], find_ring(LONG[:-1]))

    def test_right_rings(self):
        for ring in ([0, 1], [1, 0]):
            self.assertIs(True, is_ring(ring, WAITS))
        self.assertIs(True, is_ring(ring=[6, 5, 4], waits=KNOT))
        self.assertIs(True, is_ring([5], [(5, [5])]))
        # A ring need not be the greatest one.
        waits = [(0, [1]), (1, [0]), (2, [0]), (3, [3])]
        for ring in ([0, 1], [3], [0, 1, 2], [1, 3, 0], [3, 2, 1, 0]):
            self.assertIs(True, is_ring(ring, waits), ring)
        self.assertIs(True, is_ring(list(range(84, 100)), LONG))

    def test_wrong_rings(self):
        for ring in ([], [0], [1], [2], [3], [0, 1, 2], [0, 1, 3], [0, 1, 0], [0, 0], [0, 1, 1], [1, 2], [0, 2], [4],
                     [0, 1, 99], [0, 1, -1]):
            self.assertIs(False, is_ring(ring, WAITS), ring)
        for ring in ([5], [4, 5], [5, 6], [4, 5, 6, 7], [4, 5, 6, 9], [4, 5, 6, 10], [10], [8], [7, 8], [4, 5, 6, 8]):
            self.assertIs(False, is_ring(ring, KNOT), ring)
        self.assertIs(False, is_ring([5], [(5, [5, 6])]))
        self.assertIs(False, is_ring([5], [(5, [])]))
        self.assertIs(False, is_ring([5], []))

    def test_every_subset_of_small_wait_lists(self):
        chance = random.Random(3)
        for _ in range(150):
            waits = random_waits(chance, 5)
            others, rings = dict(waits), []
            for many in range(6):
                for ring in itertools.combinations(range(5), many):
                    right = many > 0 and all(others.get(pid) and set(others[pid]) <= set(ring) for pid in ring)
                    self.assertIs(right, is_ring(chance.sample(ring, many), waits))
                    rings.extend([ring] if right else [])
            self.same(sorted(set().union(*rings)), find_ring(waits))


class OrderTest(WardCase):
    def test_the_least_one_stands_next(self):
        self.same([3, 2], find_order(WAITS))
        self.same([8, 7, 9, 10], find_order(waits=KNOT))
        self.same([], find_order([]))
        self.same([7], find_order([(7, [])]))
        self.same([2, 1, 0], find_order([(0, [1]), (1, [2]), (2, [])]))
        self.same([1, 0, 2, 3], find_order([(0, [1, 3]), (3, [2, 1])]))
        self.same([0, 99], find_order([(99, [0])]))
        self.same([], find_order([(5, [5])]))
        self.same([6, 5], find_order([(5, [5, 6])]))

    def test_right_orders(self):
        for order in ([], [3], [3, 2]):
            self.assertIs(True, is_order(order, WAITS))
        for order in ([10], [8, 7], [10, 8, 7, 9], [8, 10, 7, 9], [8, 7, 9, 10], [8, 7, 9], [8]):
            self.assertIs(True, is_order(order=order, waits=KNOT), order)
        self.assertIs(True, is_order([], []))

    def test_wrong_orders(self):
        for order in ([2], [2, 3], [0], [1], [3, 2, 0], [3, 2, 3], [3, 3], [3, 2, 2], [4], [3, 4], [99], [3, -1]):
            self.assertIs(False, is_order(order, WAITS), order)
        for order in ([7, 8], [9, 8, 7], [8, 9, 7], [10, 7], [8, 7, 9, 10, 11], [8, 7, 9, 10, 4], [8, 7, 9, 10, 8]):
            self.assertIs(False, is_order(order, KNOT), order)
        self.assertIs(False, is_order([0], []))

    def test_random_wait_lists(self):
        chance = random.Random(5)
        for _ in range(300):
            waits = random_waits(chance, chance.randrange(2, 17))
            occur, going = goes_on(waits)
            order, others = find_order(waits), dict(waits)
            self.assertIs(True, is_order(order, waits))
            self.assertEqual(sorted(going), sorted(order))
            self.same(sorted(occur - going), find_ring(waits))
            # At each place the least one stands that may stand there.
            for at, pid in enumerate(order):
                may = [one for one in occur - set(order[:at])
                       if not others.get(one) or set(others[one]) & set(order[:at])]
                self.assertEqual(min(may), pid)
            mixed = chance.sample(order, len(order))
            right = all(not others.get(pid) or set(others[pid]) & set(mixed[:at]) for at, pid in enumerate(mixed))
            self.assertIs(right, is_order(mixed, waits))


class CycleTest(WardCase):
    def test_the_cycle_that_is_found(self):
        self.same([0, 1], find_cycle(WAITS))
        self.same([4, 5], find_cycle([(4, [5]), (5, [4])]))
        # From 4 to 5, and from 5 to itself, the least of its others.
        self.same([5], find_cycle(waits=KNOT))
        self.same([], find_cycle([]))
        self.same([], find_cycle([(0, [1]), (1, [0, 2])]))
        self.same([5], find_cycle([(5, [5])]))
        # The way to the cycle is left out.
        self.same([3, 7, 5], find_cycle([(1, [2]), (2, [9, 3]), (3, [7]), (7, [5]), (5, [3]), (9, [9])]))
        self.same([9], find_cycle([(1, [9]), (9, [9, 10]), (10, [1])]))
        self.same([84], find_cycle(LONG))

    def test_right_cycles(self):
        for cycle in ([0, 1], [1, 0]):
            self.assertIs(True, is_cycle(cycle, WAITS))
        # A cycle need not lie in a ring.
        waits = [(0, [1, 9]), (1, [2]), (2, [0, 1, 2])]
        for cycle in ([0, 1, 2], [1, 2, 0], [2, 0, 1], [1, 2], [2, 1], [2]):
            self.assertIs(True, is_cycle(cycle=cycle, waits=waits), cycle)
        self.same([], find_ring(waits))

    def test_wrong_cycles(self):
        waits = [(0, [1, 9]), (1, [2]), (2, [0, 1, 2]), (3, [])]
        for cycle in ([], [0], [1], [0, 1], [0, 2, 1], [1, 0, 2], [2, 2], [1, 2, 1, 2], [0, 1, 2, 2], [9], [0, 9], [3],
                      [0, 1, 2, 3], [0, 1, 2, 0], [-1], [99]):
            self.assertIs(False, is_cycle(cycle, waits), cycle)
        self.assertIs(False, is_cycle([0], []))

    def test_random_wait_lists(self):
        chance = random.Random(7)
        for _ in range(300):
            waits = random_waits(chance, chance.randrange(2, 17), 3)
            cycle, ring, others = find_cycle(waits), find_ring(waits), dict(waits)
            self.assertIs(bool(ring), is_cycle(cycle, waits))
            self.assertEqual(bool(ring), bool(cycle))
            if ring:
                way = [ring[0]]
                while way[-1] not in way[:-1]:
                    way.append(sorted(others[way[-1]])[0])
                self.same(way[way.index(way[-1]):-1], cycle)
            mixed = chance.sample(range(8), chance.randrange(1, 4))
            right = all(after in others.get(pid, []) for pid, after in zip(mixed, mixed[1:] + mixed[:1]))
            self.assertIs(right, is_cycle(mixed, waits))


class ValuesTest(WardCase):
    """What holds for all of these functions."""

    def test_any_plain_value_may_be_judged(self):
        waits = [(0, [1]), (1, [0]), (2, [2]), (5, [])]
        for judge, right in ((is_ring, [0, 1]), (is_cycle, [0, 1]), (is_order, [5])):
            self.assertIs(True, judge(right, waits))
            for x in NO_LISTS + [tuple(right), [right], [tuple(right)], [None], [[]], [()]]:
                self.assertIs(False, judge(x, waits), (judge, x))
            for at in range(len(right)):
                for part in NO_PIDS:
                    self.assertIs(False, judge(right[:at] + [part] + right[at + 1:], waits), (judge, at, part))
                    self.assertIs(False, judge(right + [part], waits), (judge, part))

    def test_true_is_not_1(self):
        waits = [(1, [0]), (0, [1])]
        for judge in (is_ring, is_cycle):
            for wrong in ([True, 0], [1, False], [False, 1], [0, True], [True, False]):
                self.assertIs(False, judge(wrong, waits), wrong)
        for wrong in ([True], [False], [0, True], [False, 1]):
            self.assertIs(False, is_order(wrong, [(0, []), (1, [])]), wrong)

    def test_large_values(self):
        for judge in (is_ring, is_cycle, is_order):
            for x in (list(range(2999)), [0] * 2999, [[0]] * 1400, [0, 1] * 1400):
                self.assertIs(False, judge(x, WAITS))

    def test_nothing_is_changed_or_handed_out(self):
        waits = copy.deepcopy(KNOT)
        ring = [6, 5, 4]
        for find in (find_ring, find_order, find_cycle):
            find(waits).append(50)
            self.assertNotIn(50, find(waits))
        self.assertEqual((True, False, False),
                         (is_ring(ring, waits), is_order(ring, waits), is_cycle(ring, waits)))
        self.assertEqual((KNOT, [6, 5, 4]), (waits, ring))


if __name__ == "__main__":
    unittest.main()
