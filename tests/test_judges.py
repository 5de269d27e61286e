"""All judges, [7]: any plain value, and copies of right certificates with other values in some places."""

import copy
import random
import unittest

from tests.cases import WardCase
from tests.test_histories import busy_world, parts_of, put_at
from tests.test_rights import family
from tests.test_soundness import sound
from tests.values import ANYTHING
from wardwork.ages import is_pick_log
from wardwork.histories import is_record, is_told, is_view
from wardwork.journal import is_recovery, settled
from wardwork.keeper import Keeper
from wardwork.ownership import is_ownership
from wardwork.rights import is_book, is_chain
from wardwork.safety import is_safe_order, is_stuck
from wardwork.soundness import is_sound
from wardwork.waits import is_cycle, is_order, is_ring

TEXTS = ["", "a", "r", "rwg", "pipe:0", "frame", "turn", "halt", "asks", "limit", "pick", "put", "x" * 130]
ROOTS = [(0, 0, "a", "rwg"), (7, 1, "a", "rw")]
WAITS = [(0, [1]), (1, [0]), (2, [0, 3])]


def any_value(chance, deep=0):
    """A random plain value, nested at most 8 deep."""
    if deep < 8 and chance.randrange(3) == 0:
        parts = [any_value(chance, deep + 1) for _ in range(chance.choice([0, 1, 2, 4, 5, 8]))]
        return chance.choice([list, tuple])(parts)
    return chance.choice([True, False, None, 0, 1, -1, 2, 3, 7, 8, 65535, 65536, 10 ** 12 - 1, chance.choice(TEXTS)])


def judges():
    """For each judge a function of its first argument alone, and a right certificate."""
    keeper = Keeper(2, 6)
    keeper.admit(0, 2, [1] * 9)
    keeper.fork(0, 1)
    world = busy_world(True)
    setup = world.setup
    loaded = sound()
    loaded[0] = [2, 24, 25, 0, 0, 0, 0, 0]
    after = settled(loaded)
    return [
        (lambda x: is_recovery(x, loaded, after), [24, 25]),
        (is_sound, sound()),
        (lambda x: is_chain(x, family().rows(), ROOTS, 5, "a", "r"), [0, 1, 3, 5]),
        (lambda x: is_book(x, ROOTS), family().rows()),
        (is_view, world.view(0)),
        (lambda x: is_told(x, rooms=setup[5], gates=setup[6], blocks=setup[7]), world.log()),
        (lambda x: is_record(x, setup), world.record()),
        (is_pick_log, [("enter", 0, 3), ("lend", 0, 5), ("pick", 0), ("leave", 0), ("pick", None)]),
        (lambda x: is_ownership(x, keeper.tables(), frames=2, slots=6), keeper.certificate()),
        (lambda x: is_ring(x, WAITS), [0, 1]),
        (lambda x: is_order(x, WAITS), [3, 2]),
        (lambda x: is_cycle(x, WAITS), [1, 0]),
        (lambda x: is_safe_order(x, [1], [[0], [0]], [[1], [1]]), [1, 0]),
        (lambda x: is_stuck(x, [0], [[0], [0]], [[1], [1]]), [1, 0]),
    ]


class JudgesTest(WardCase):
    def test_right_certificates(self):
        for judge, right in judges():
            kept = copy.deepcopy(right)
            self.assertIs(True, judge(right))
            self.same(kept, right)

    def test_any_plain_value(self):
        chance = random.Random(0)
        values = ANYTHING + [any_value(chance) for _ in range(1500)]
        for judge, right in judges():
            for value in values:
                told = judge(value)
                self.assertIsInstance(told, bool)
                # A value of another kind than the certificate is none.
                if value.__class__ is not right.__class__:
                    self.assertIs(False, told, value)

    def test_certificates_with_other_values(self):
        for number, (judge, right) in enumerate(judges()):
            chance = random.Random(number)
            ways = list(parts_of(right))
            for _ in range(400):
                value = right
                for _ in range(chance.choice([1, 1, 2])):
                    way = chance.choice(ways)
                    try:
                        value = put_at(value, way, any_value(chance))
                    except (IndexError, TypeError):
                        # The place is not there any more.
                        continue
                self.assertIsInstance(judge(value), bool)

    def test_a_list_in_place_of_a_tuple_and_a_truth_in_place_of_a_number(self):
        for judge, right in judges():
            def part_at(way):
                part = right
                for at in way:
                    part = part[at]
                return part

            for way in parts_of(right):
                part = part_at(way)
                if isinstance(part, (list, tuple)):
                    other = tuple(part) if isinstance(part, list) else list(part)
                    self.assertIs(False, judge(put_at(right, way, other)), way)
                elif part in (0, 1) and not isinstance(part, str):
                    self.assertIs(False, judge(put_at(right, way, part == 1)), way)


if __name__ == "__main__":
    unittest.main()
