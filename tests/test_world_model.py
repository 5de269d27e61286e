"""Random worlds against a model, [79] to [91], and what holds behind each event: [90], [92], [94], [95], [97], [98]."""

import random
import unittest

from tests.cases import WardCase
from tests.worlds import Model, random_event, random_setup, world_seen
from wardwork.ages import Ages
from wardwork.errors import Full
from wardwork.histories import is_record, is_told, is_view, project, replay
from wardwork.ownership import is_ownership
from wardwork.rights import is_book
from wardwork.waits import find_ring, is_ring
from wardwork.world import World


def random_world(seed):
    """A chance, a world and its model."""
    chance = random.Random(seed)
    while True:
        try:
            world = World(**random_setup(chance))
            return chance, world, Model(world.setup)
        except Full:
            pass


class ModelTest(WardCase):
    def test_random_events(self):
        told = {}
        for seed in range(120):
            chance, world, model = random_world(seed)
            with self.subTest(seed=seed):
                self.same(model.seen(), world_seen(world))
                for _ in range(40):
                    event = random_event(chance)
                    self.same(model.do(event), world.do(event))
                    self.same(model.seen(), world_seen(world))
                    self.same((model.log, model.record), (world.log(), world.record()))
            for pid, request, answer, thing in world.log():
                if request:
                    told[(request[0],) + (answer if answer[0] == 0 else (1,))] = True
            for row in world.record():
                told[row[3]] = True
        for key in [(0, 1), (1, 1), (2, 1), (3, 1), (3, 0, 1), (3, 0, 2), (3, 0, 5), (4, 1), (4, 0, 1), (4, 0, 2), (4, 0, 5),
                    (5, 1), (5, 0, 1), (5, 0, 2), (5, 0, 4), (6, 1), (6, 0, 1), (6, 0, 2), (6, 0, 4), (7, 1), (7, 0, 4),
                    (8, 1), (8, 0, 4), (9, 1), (9, 0, 1), (9, 0, 2), (9, 0, 4), (10, 1), (10, 0, 1), (11, 1), (11, 0, 2),
                    (12, 1), (12, 0, 3), (13, 0, 6), "wait", "halt", "rest", "interrupt", "idle", "put", "full", "empty",
                    "ended", "code", "address", "divide", "fetch"]:
            self.assertIn(key, told)


class HoldsTest(WardCase):
    def test_behind_each_event(self):
        for seed in range(200, 260):
            chance, world, model = random_world(seed)
            setup = world.setup
            roots = [(number, *root) for number, root in enumerate(setup[8])]
            passed, most = {}, {}
            for _ in range(40):
                ready, ages = world.ready(), world.ages()
                row = world.do(random_event(chance))
                self.assertIs(True, is_book(world.rights(), roots))
                self.assertIs(True, is_told(world.log(), rooms=setup[5], gates=setup[6], blocks=setup[7]))
                self.assertIs(True, is_ownership(world.certificate(), world.tables(), frames=setup[3], slots=setup[4]))
                self.views(world)
                self.same(find_ring(world.waits()), world.ring_of_now())
                if not world.ready():
                    self.same([pid for pid, others in world.waits()], world.ring_of_now())
                self.bound(row, ready, ages, world, passed, most)
            self.assertIs(True, is_record(world.record(), setup))
            again = replay(setup, world.record())
            self.same((world_seen(world), world.record(), world.log()), (world_seen(again), again.record(), again.log()))

    def views(self, world):
        for pid in range(world.many):
            view = world.view(pid)
            self.assertIs(True, is_view(view), view)
            asked, answers = project(world.log(), pid)
            self.same(view[2], answers)
            self.same(view[3][:len(answers)], asked)
            self.assertLessEqual(len(view[3]) - len(asked), 1)

    def bound(self, row, ready, ages, world, passed, most):
        """Counts for each process the turns in a row that pick others while it stays ready, [98]."""
        if row[0][0] == "turn" and row[1] is not None:
            for pid in ready:
                passed[pid] = 0 if pid == row[1] else passed.get(pid, 0) + 1
        # Who waits or ends behind this event was not ready all the time; who waited in it, neither.
        for pid in list(passed):
            if pid not in world.ready() or pid not in ready:
                passed[pid] = 0
        for pid, base, lent, awake, age in ages:
            self.assertLessEqual(passed.get(pid, 0), Ages.bound(base))

    def test_a_ring_holds_for_ever(self):
        rings = 0
        for seed in range(300, 420):
            chance, world, model = random_world(seed)
            for _ in range(60):
                ring = world.ring_of_now()
                event = random_event(chance)
                while event[0] not in ("turn", "force"):
                    event = random_event(chance)
                world.do(event)
                if ring:
                    rings += 1
                    self.assertIs(True, is_ring(ring, world.waits()))
                    self.assertTrue(all(world.status(pid) == "waiting" for pid in ring))
        self.assertGreater(rings, 200)


if __name__ == "__main__":
    unittest.main()
