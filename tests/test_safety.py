"""Safe orders and stuck lists, [45] and [46]; Banker, [47]."""

import copy
import itertools
import random
import unittest

from tests.cases import WardCase
from tests.values import NO_INTEGERS, no_integers_of
from wardwork.errors import BadArgument
from wardwork.safety import Banker, find_safe_order, find_stuck, is_safe_order, is_stuck

FREE = [1, 1]
HELD = [[1, 0], [0, 2], [2, 0]]
# Only process 1 can end at once.
WANTED = [[1, 2], [1, 1], [0, 3]]
NO_AMOUNT_PARTS = NO_INTEGERS + [-1, 1000, 10 ** 12 - 1]


def plus(*amounts):
    return [sum(parts) for parts in zip(*amounts)]


def covers(amount, other):
    return not any(less < more for less, more in zip(amount, other))


def safe(order, free, held, wanted):
    """Whether the list of different processes is a safe order, by the words of [45]."""
    return len(order) == len(held) and all(
        covers(plus(free, *[held[who] for who in order[:at]]), wanted[who]) for at, who in enumerate(order))


def stuck(some, free, held, wanted):
    """Whether the processes are a stuck list, by the words of [46]."""
    there = plus(free, *[held[who] for who in range(len(held)) if who not in some])
    return len(some) > 0 and not any(covers(there, wanted[who]) for who in some)


def random_case(chance, most=5):
    kinds, many = chance.randrange(1, 5), chance.randrange(most + 1)

    def amount(greatest):
        return [chance.randrange(greatest + 1) for _ in range(kinds)]

    greatest = chance.choice([2, 4])
    return amount(greatest // 2), [amount(2) for _ in range(many)], [amount(greatest) for _ in range(many)]


def no_amounts_of(kinds):
    """Wrong values for an amount with so many parts."""
    right = [1] * kinds
    wrong = [True, False, None, 0, 1, "", "1" * kinds, [], (), tuple(right), right + [1], right[1:], [right], [0] * 5]
    for part in NO_AMOUNT_PARTS:
        wrong.extend([[part] + right[1:], right[1:] + [part]])
    return wrong


class SafeOrderTest(WardCase):
    def test_the_least_one_stands_next(self):
        self.same([1, 0, 2], find_safe_order(FREE, HELD, WANTED))
        self.same([0, 1, 2], find_safe_order(free=[9, 9], held=HELD, wanted=WANTED))
        self.same([2, 1, 0], find_safe_order([1], [[1], [1], [1]], [[3], [2], [1]]))
        # 0 comes as soon as it can, ahead of 2.
        self.same([1, 0, 2], find_safe_order([1], [[0], [1], [0]], [[2], [1], [1]]))

    def test_edges(self):
        for kinds in range(1, 5):
            self.same([], find_safe_order([0] * kinds, [], []))
            self.assertIs(True, is_safe_order([], [0] * kinds, [], []))
            self.same([0], find_safe_order([0] * kinds, [[0] * kinds], [[0] * kinds]))
            self.same([0], find_safe_order([999] * kinds, [[999] * kinds], [[999] * kinds]))
            self.assertIsNone(find_safe_order([998] * kinds, [[999] * kinds], [[999] * kinds]))
            for kind in range(kinds):
                free = [999 - (kind == at) for at in range(kinds)]
                self.assertIsNone(find_safe_order(free, [[0] * kinds], [[999] * kinds]))
        self.same(list(range(8)), find_safe_order([0], [[999]] * 8, [[0]] + [[999]] * 7))
        self.same([7, 6, 5, 4, 3, 2, 1, 0], find_safe_order([0], [[1]] * 8, [[7 - who] for who in range(8)]))
        self.assertIsNone(find_safe_order([0], [[1]] * 8, [[1]] * 8))
        self.assertIsNone(find_safe_order([0], [[9], [9]], [[0], [10]]))

    def test_right_orders(self):
        self.assertIs(True, is_safe_order([1, 0, 2], FREE, HELD, WANTED))
        self.assertIs(True, is_safe_order(order=[1, 2, 0], free=FREE, held=HELD, wanted=WANTED))
        for order in itertools.permutations(range(3)):
            self.assertIs(True, is_safe_order(list(order), [9, 9], HELD, WANTED))

    def test_wrong_orders(self):
        for order in ([], [1], [1, 0], [1, 0, 2, 1], [1, 0, 2, 3], [1, 0, 0], [1, 1, 1], [0, 1, 2], [2, 1, 0], [1, 0, 3],
                      [1, 0, -1], [-1, 0, 1, 2], [0, 2, 1]):
            self.assertIs(False, is_safe_order(order, FREE, HELD, WANTED), order)
        self.assertIs(False, is_safe_order([0], FREE, [], []))

    def test_random_cases(self):
        chance = random.Random(2)
        found = [0, 0]
        for _ in range(300):
            free, held, wanted = random_case(chance)
            orders = [list(order) for order in itertools.permutations(range(len(held)))
                      if safe(order, free, held, wanted)]
            # The least one at each place is the first list of all.
            self.same(min(orders, default=None), find_safe_order(free, held, wanted))
            found[bool(orders)] += 1
            for order in itertools.permutations(range(len(held))):
                self.assertIs(list(order) in orders, is_safe_order(list(order), free, held, wanted))
        self.assertGreater(min(found), 50)


class StuckTest(WardCase):
    def test_the_greatest_stuck_list(self):
        self.same([], find_stuck(FREE, HELD, WANTED))
        self.same([0, 2], find_stuck(free=[0, 1], held=[[1, 2], [1, 1], [1, 2]], wanted=[[2, 0], [0, 1], [0, 4]]))
        self.same([0, 1, 2], find_stuck([0, 0], HELD, WANTED))
        self.same([], find_stuck([0], [], []))
        self.same([1], find_stuck([0], [[9], [9]], [[0], [10]]))
        self.same(list(range(8)), find_stuck([0], [[1]] * 8, [[1]] * 8))
        self.same([], find_stuck([0], [[0]] * 8, [[0]] * 8))
        self.same([0, 7], find_stuck([998], [[0]] * 8, [[999]] + [[998]] * 6 + [[999]]))

    def test_right_stuck_lists(self):
        for some in ([0, 1, 2], [2, 0, 1], [0, 1], [2]):
            self.assertIs(True, is_stuck(some, [0, 0], HELD, WANTED), some)
        self.assertIs(True, is_stuck(stuck=[1], free=[0], held=[[9], [9]], wanted=[[0], [10]]))

    def test_the_held_amounts_of_all_others_count(self):
        # 0 and 1 are stuck together. Beside what the other one holds, none of them is.
        free, held, wanted = [0], [[1], [1]], [[1], [1]]
        self.assertIs(True, is_stuck([0, 1], free, held, wanted))
        for some in ([0], [1]):
            self.assertIs(False, is_stuck(some, free, held, wanted))

    def test_wrong_stuck_lists(self):
        free, held, wanted = [0, 1], [[1, 2], [1, 1], [1, 2]], [[2, 0], [0, 1], [0, 4]]
        self.assertIs(True, is_stuck([0, 2], free, held, wanted))
        for some in ([], [0], [1], [2], [0, 1, 2], [0, 1], [1, 2], [0, 2, 2], [0, 0], [0, 2, 3], [3], [-1], [0, 2, -1]):
            self.assertIs(False, is_stuck(some, free, held, wanted), some)
        self.assertIs(False, is_stuck([], [0], [], []))
        self.assertIs(False, is_stuck([0], [0], [], []))

    def test_random_cases(self):
        chance = random.Random(4)
        for _ in range(300):
            free, held, wanted = random_case(chance)
            whole = set()
            for many in range(len(held) + 1):
                for some in itertools.combinations(range(len(held)), many):
                    right = stuck(some, free, held, wanted)
                    self.assertIs(right, is_stuck(chance.sample(some, many), free, held, wanted))
                    whole |= set(some) if right else set()
            self.same(sorted(whole), find_stuck(free, held, wanted))
            # Exactly one of both is there.
            self.assertIs(bool(whole), find_safe_order(free, held, wanted) is None)

    def test_each_finder_against_the_judge(self):
        chance = random.Random(6)
        for _ in range(300):
            free, held, wanted = random_case(chance, 8)
            order, some = find_safe_order(free, held, wanted), find_stuck(free, held, wanted)
            self.assertIs(order is not None, is_safe_order(order, free, held, wanted))
            self.assertIs(order is None, is_stuck(some, free, held, wanted))
            self.assertIs(order is not None, some == [])


class JudgesTest(WardCase):
    def test_any_plain_value_may_be_judged(self):
        # All three are stuck, but none of them alone.
        case = ([0], [[1]] * 3, [[2]] * 3)
        for judge, right, rest in ((is_safe_order, [0, 1, 2], ([9, 9], HELD, WANTED)), (is_stuck, [0, 1, 2], case)):
            self.assertIs(True, judge(right, *rest))
            for x in NO_INTEGERS + [tuple(right), [right], "012", ["0", "1", "2"], [[0], [1], [2]], [None] * 3, -1]:
                self.assertIs(False, judge(x, *rest), (judge, x))
            for at in range(3):
                for part in NO_INTEGERS + [-1, 3, 10 ** 12 - 1]:
                    self.assertIs(False, judge(right[:at] + [part] + right[at + 1:], *rest), (judge, at, part))
            for wrong in ([0, True, 2], [False, 1, 2], [False, True, 2], [True, 0, 2]):
                self.assertIs(False, judge(wrong, *rest), (judge, wrong))
            self.assertIs(False, judge(list(range(2999)), *rest))
            self.assertIs(False, judge([0] * 2999, *rest))

    def test_nothing_is_changed_or_handed_out(self):
        free, held, wanted = copy.deepcopy((FREE, HELD, WANTED))
        order, some = [1, 0, 2], [0, 1]
        find_safe_order(free, held, wanted).append(7)
        find_stuck(free, held, wanted).append(7)
        is_safe_order(order, free, held, wanted)
        is_stuck(some, free, held, wanted)
        self.assertEqual((FREE, HELD, WANTED, [1, 0, 2], [0, 1]), (free, held, wanted, order, some))
        self.assertEqual([1, 0, 2], find_safe_order(free, held, wanted))


def seen(banker):
    return copy.deepcopy((banker.free, banker.held(), banker.wanted(), banker.order()))


class BankerTest(WardCase):
    def test_at_first_nobody_holds_anything(self):
        banker = Banker([3, 4], [[3, 0], [1, 4]])
        self.same(([3, 4], [[0, 0], [0, 0]], [[3, 0], [1, 4]], [0, 1]), seen(banker))
        self.same(([0], [], [], []), seen(Banker(total=[0], claims=[])))
        self.same(([999] * 4, [[0] * 4] * 8, [[999] * 4] * 8, list(range(8))), seen(Banker([999] * 4, [[999] * 4] * 8)))

    def test_units_that_are_handed_out(self):
        banker = Banker([10], [[7], [5], [9]])
        self.assertIs(True, banker.ask(0, [3]))
        self.same(([7], [[3], [0], [0]], [[4], [5], [9]], [0, 1, 2]), seen(banker))
        self.assertIs(True, banker.ask(who=2, amount=[2]))
        self.same(([5], [[3], [0], [2]], [[4], [5], [7]], [0, 1, 2]), seen(banker))
        self.assertIsNone(banker.give(2, [1]))
        self.assertIsNone(banker.give(who=0, amount=[3]))
        self.same(([9], [[0], [0], [1]], [[7], [5], [8]], [0, 1, 2]), seen(banker))

    def test_free_does_not_cover_the_amount(self):
        banker = Banker([4, 4], [[4, 4], [4, 0]])
        self.assertIs(True, banker.ask(0, [3, 3]))
        before = seen(banker)
        self.assertIs(False, banker.ask(1, [2, 0]))
        self.assertIs(False, banker.ask(1, [4, 0]))
        self.assertEqual(before, seen(banker))

    def test_no_safe_order_would_be_left(self):
        banker = Banker([10], [[7], [5], [9]])
        self.assertIs(True, banker.ask(0, [3]))
        self.assertIs(True, banker.ask(1, [2]))
        before = seen(banker)
        # With 3 for process 2 there would be 2 left, and all want more.
        self.assertIs(False, banker.ask(2, [3]))
        self.same(before, seen(banker))
        self.assertIs(True, banker.ask(2, [2]))
        self.same(([3], [[3], [2], [2]], [[4], [3], [7]], [1, 0, 2]), seen(banker))
        self.assertIs(False, banker.ask(0, [1]))
        self.assertIs(True, banker.ask(1, [1]))

    def test_an_amount_of_zeros(self):
        banker = Banker([1, 0], [[1, 0]])
        before = seen(banker)
        self.assertIs(True, banker.ask(0, [0, 0]))
        banker.give(0, [0, 0])
        self.assertEqual(before, seen(banker))

    def test_amounts_beyond_what_is_wanted_or_held(self):
        banker = Banker([9, 9], [[5, 2], [9, 9]])
        banker.ask(0, [2, 1])
        before = seen(banker)
        for amount in ([4, 0], [0, 2], [4, 2], [999, 999], [3, 2]):
            self.raised(BadArgument, {"name": "amount"}, banker.ask, 0, amount)
        for amount in ([3, 0], [0, 2], [3, 1], [999, 999]):
            self.raised(BadArgument, {"name": "amount"}, banker.give, 0, amount)
        self.raised(BadArgument, {"name": "amount"}, banker.give, 1, [1, 0])
        self.assertEqual(before, seen(banker))
        # What the claim covers is asked ahead of what is free.
        banker = Banker([5], [[5], [5]])
        banker.ask(0, [5])
        self.raised(BadArgument, {"name": "amount"}, banker.ask, 1, [6])
        self.assertIs(False, banker.ask(1, [5]))

    def test_the_constructor(self):
        wrong = [True, False, None, 0, 1, "", "1", (), ([1, 1],), [1, 1], [[1, 1]] * 9, [[[1, 1]]], [[2, 1]], [[1, 3]],
                 [[1, 1], [2, 2]], [[0, 0]] * 7 + [[0, 999]]]
        for part in no_amounts_of(2):
            wrong.extend([[part], [[1, 1], part], [part, [1, 1]]])
        # Of another length they are right totals, but for five parts.
        totals = [x for x in no_amounts_of(4) if x != [1] * 3] + [[True], [1, False], [1000], [-1], [[1], [1]]]
        self.refused(Banker, {"total": [1, 2], "claims": [[1, 1]]}, {"total": totals, "claims": wrong})
        for kinds in range(1, 5):
            Banker([999] * kinds, [[0] * kinds, [999] * kinds])

    def test_arguments_are_asked(self):
        for total, claims in (([3, 3], [[2, 2], [3, 3]]), ([3], [[2]] * 8), ([2] * 4, [[2] * 4])):
            banker = Banker(total, claims)
            banker.ask(0, [1] * len(total))
            wrong = {"who": no_integers_of(0, len(claims) - 1), "amount": no_amounts_of(len(total))}
            for method in (banker.ask, banker.give):
                self.refused(method, {"who": 0, "amount": [1] * len(total)}, wrong, lambda: seen(banker))
        banker = Banker([1], [])
        for who in [0, 7] + NO_INTEGERS:
            self.raised(BadArgument, {"name": "who"}, banker.ask, who, [0])
            self.raised(BadArgument, {"name": "who"}, banker.give, who, [0])

    def test_lists_are_neither_kept_nor_handed_out(self):
        total, claims, amount = [5, 5], [[2, 3], [4, 4]], [1, 1]
        banker = Banker(total, claims)
        total[1] = 4
        self.assertEqual([5, 5], banker.free)
        total[1] = 5
        banker.ask(0, amount)
        before = seen(banker)
        total[0] = 9
        claims[0][0] = 5
        claims.pop()
        amount[0] = 2
        for told in (banker.free, banker.held(), banker.held()[0], banker.wanted(), banker.wanted()[0], banker.order()):
            told.clear()
        self.assertEqual(before, seen(banker))
        self.assertEqual(([9, 5], [[5, 3]], [2, 1]), (total, claims, amount))
        given = [1, 0]
        banker.give(0, given)
        given[0] = 0
        self.assertEqual([5, 4], banker.free)

    def test_random_calls_agree_with_a_model(self):
        for seed in range(40):
            chance = random.Random(seed)
            kinds, many = chance.randrange(1, 5), chance.randrange(1, 9)
            total = [chance.randrange(1, 8) for _ in range(kinds)]
            claims = [[chance.randrange(part + 1) for part in total] for _ in range(many)]
            banker, held = Banker(total, claims), [[0] * kinds for _ in range(many)]
            for _ in range(80):
                who = chance.randrange(many)
                wanted = [part - had for part, had in zip(claims[who], held[who])]
                if chance.randrange(3):
                    amount = [chance.randrange(part + 1) for part in wanted]
                    self.assertIs(self.model_ask(total, claims, held, who, amount), banker.ask(who, amount))
                else:
                    amount = [chance.randrange(part + 1) for part in held[who]]
                    held[who] = [had - part for had, part in zip(held[who], amount)]
                    self.assertIsNone(banker.give(who, amount))
                free = [part - sum(amounts) for part, amounts in zip(total, zip(*held))]
                wanted = [[most - had for most, had in zip(claim, amount)] for claim, amount in zip(claims, held)]
                self.same((free, held, wanted, find_safe_order(free, held, wanted)), seen(banker))
                self.assertIs(True, is_safe_order(banker.order(), free, held, wanted))

    def model_ask(self, total, claims, held, who, amount):
        """Hands out if a safe order is left, found by ending whoever can end."""
        after = [plus(had, amount) if one == who else had for one, had in enumerate(held)]
        free = [part - sum(amounts) for part, amounts in zip(total, zip(*after))]
        if min(free) < 0:
            return False
        left = list(range(len(held)))
        while left:
            able = [one for one in left if covers(plus(free, after[one]), claims[one])]
            if not able:
                return False
            free = plus(free, after[able[-1]])
            left.remove(able[-1])
        held[:] = after
        return True


if __name__ == "__main__":
    unittest.main()
