"""Saved worlds, [8] and [96], and separation, [1]."""

import copy
import random
import unittest

from tests.cases import WardCase
from tests.test_world_model import random_world
from tests.values import is_plain, spoil
from tests.worlds import all_seen, asking, program, random_event, world_seen
from wardwork.histories import is_view, project
from wardwork.world import World

LOOP = program("jump 0")


def depth(value):
    if not isinstance(value, (list, tuple)):
        return 0
    return 1 + max([depth(part) for part in value], default=0)


def begun(world):
    """What the questions of a world restored from this one must tell, with views that begin anew."""
    seen = list(world_seen(world))
    views = []
    for pid in range(world.many):
        start, before, answers, asked, steps, ending, core, contents = world.view(pid)
        if ending == "asks":
            views.append(((core[0] - 1, *core[1:]), contents, [], asked[-1:], 1, ending, core, contents))
        else:
            views.append((core, contents, [], [], 0, ending, core, contents))
    seen[4] = views
    return tuple(seen)


class StateTest(WardCase):
    def check(self, first, events):
        """Saves a world, and lets it and what is restored go on alike."""
        before = all_seen(first)
        state = first.state()
        self.same(before, all_seen(first))
        self.assertTrue(is_plain(state))
        self.assertLessEqual(depth(state), 30)
        kept = copy.deepcopy(state)
        second = World.restored(state)
        self.assertIsInstance(second, World)
        third = World.restored(World.restored(copy.deepcopy(state)).state())
        for one in (second, third):
            self.same(begun(first), world_seen(one))
            self.same((first.setup, [], [], first.certificate(), first.ring_of_now(), state),
                      (one.setup, one.record(), one.log(), one.certificate(), one.ring_of_now(), one.state()))
            self.views(one)
        rows, told = len(first.record()), len(first.log())
        for event in events:
            row = second.do(event)
            self.same(before[6], kept)
            self.same(row, third.do(event))
        self.same(before, all_seen(first))
        # The first one goes on alike, too.
        for event in events:
            first.do(event)
        for one in (second, third):
            self.same((first.record()[rows:], first.log()[told:]), (one.record(), one.log()))
            here, there = list(world_seen(first)), list(world_seen(one))
            self.same([view[5:] for view in here.pop(4)], [view[5:] for view in there.pop(4)])
            self.same(here, there)
            self.same((first.state(), first.certificate()), (one.state(), one.certificate()))
            self.views(one)
        self.same(kept, state)
        spoil(state)
        self.same(first.state(), second.state())
        self.same(kept, World.restored(kept).state())

    def views(self, world):
        for pid in range(world.many):
            view = world.view(pid)
            self.assertIs(True, is_view(view))
            asked, answers = project(world.log(), pid)
            # The request with which a view begins is not in the log ahead of its answer.
            self.same((view[2], view[3][:len(answers)]), (answers, asked))

    def test_random_worlds_behind_each_event(self):
        for seed in range(25):
            chance, world, model = random_world(seed)
            for _ in range(8):
                world.run([random_event(chance) for _ in range(chance.randrange(4))])
                self.check(World.restored(world.state()), [random_event(chance) for _ in range(6)])
                self.check(world, [random_event(chance) for _ in range(12)])

    def test_a_world_without_events(self):
        world = World([LOOP, asking((12,))], rooms=[1], gates=[2], blocks=1, roots=[(0, "pipe:0", "rwg")])
        self.check(world, [("turn", 3), ("turn", 20), ("put", 0, 7), ("end", 2)])

    def waiting_world(self):
        roots = [(0, "pipe:0", "r"), (1, "pipe:0", "r"), (2, "pipe:0", "w"), (3, "gate:0", "w"), (2, "gate:0", "w"),
                 (4, "gate:0", "w")]
        programs = [asking((4, 0), (1,))] * 2 + [asking((5, 1), (0,), (3, 0, 9), (6, 1))] + [asking((5, 0), (0,))] * 2
        world = World(programs, rooms=[1], gates=[1], roots=roots)
        world.run([("force", 2, 5), ("force", 4, 9), ("force", 1, 9), ("force", 0, 9), ("force", 3, 9)])
        self.same(["waiting", "waiting", "ready", "waiting", "waiting"], [world.status(pid) for pid in range(5)])
        return world

    def test_waiting_processes(self):
        # The order of waiting goes on: 1 has waited longer than 0, and 4 longer than 3.
        world = World.restored(self.waiting_world().state())
        world.do(("force", 2, 20))
        self.same([(2, (3, 1, 0, 9, 0), (1, 0), "pipe:0"), (1, (4, 0, 0, 0, 0), (1, 9), "pipe:0"),
                   (2, (6, 1, 1, 9, 0), (1, 0), "gate:0"), (4, (5, 0, 0, 0, 0), (1, 0), "gate:0")], world.log()[:4])
        self.check(self.waiting_world(), [("force", 2, 20), ("end", 4), ("put", 0, 3), ("turn", 9), ("turn", 9)])
        view = World.restored(self.waiting_world().state()).view(0)
        contents = asking((4, 0), (1,)) + [0] * 28
        self.same(((1, 0, 0, 0, 0), contents, [], [(4, 0, 0, 0, 0)], 1, "asks", (2, 0, 0, 0, 0), contents), view)

    def test_ends_while_waiting(self):
        world = self.waiting_world()
        world.run([("end", 0), ("end", 3), ("end", 2)])
        self.same(["asks", "asks", "limit"], [world.view(pid)[5] for pid in (0, 3, 2)])
        again = World.restored(world.state())
        self.same([((1, 0, 0, 0, 0), [(4, 0, 0, 0, 0)], 1, "asks"), ((1, 0, 0, 0, 0), [(5, 0, 0, 0, 0)], 1, "asks")],
                  [(view[0], view[3], view[4], view[5]) for view in (again.view(0), again.view(3))])
        self.same(["ended"] * 3, [again.status(pid) for pid in (0, 3, 2)])
        self.check(world, [("turn", 9), ("force", 1, 9), ("force", 4, 9)])

    def test_ended_processes_and_their_rights(self):
        world = World([asking((9, 0, 1, 7)), asking((9, 0, 2, 4), (0,), (10, 0)), LOOP, [1]], rooms=[2],
                      roots=[(0, "pipe:0", "rwg")])
        world.run([("force", 0, 9), ("force", 1, 5), ("force", 3, 1), ("end", 2)])
        again = World.restored(world.state())
        self.same(["halt", "ready", "ended", "code"], [again.status(pid) for pid in range(4)])
        again.do(("force", 1, 9))
        # Gifts go on, and so do the numbers of the rights.
        self.same((1, (10, 1, 0, 2, 4), (1, 1), None), again.log()[0])
        self.same([0, 1], [row[0] for row in again.rights()])
        self.check(world, [("force", 1, 9), ("turn", 5)])

    def test_changing_a_state_changes_nothing(self):
        world = self.waiting_world()
        world.run([("end", 0), ("end", 2)])
        before, state = all_seen(world), world.state()
        again = World.restored(state)
        spoil(state)
        self.same(before, all_seen(world))
        self.same(begun(world), world_seen(again))


class SeparationTest(WardCase):
    """One process of two worlds that differ in all else does the same with the same answers."""

    # It sums what it receives, writes it behind the program, and tells it by a send.
    PROGRAM = program("set b 0 ! trap 4 ! copy d b ! set c 60 ! load a c ! add a d ! store a c ! copy c a ! set b 1 ! trap 3 !"
                      " zero a 13 ! jump 0 ! halt ! word 1")

    def test_two_worlds(self):
        first = World([self.PROGRAM, LOOP], pages=8, rooms=[3, 3], slots=40, roots=[
            (0, "pipe:0", "r"), (0, "pipe:1", "w"), (1, "pipe:0", "w"), (1, "pipe:1", "r")])
        for word in (5, 6, 65535, 7):
            first.run([("force", 0, 3), ("put", 0, word), ("turn", 20), ("force", 0, 20), ("pull", 1)])
        # In the other world it has another number, few frames, neighbours that write much, and other turns.
        busy = program("set b 30 ! store a b ! set b 60 ! store a b ! add a a ! trap 12 ! jump 0")
        second = World([busy, LOOP, self.PROGRAM], pages=8, rooms=[1, 2, 1], frames=1, slots=63, priorities=[7, 0, 2], roots=[
            (2, "pipe:2", "rg"), (2, "pipe:1", "w"), (0, "pipe:2", "w"), (1, "pipe:1", "r")])
        for word in (5, 6, 65535, 7):
            for _ in range(15):
                second.run([("turn", 3), ("force", 2, 2)])
            second.do(("put", 2, word))
            for _ in range(15):
                second.run([("force", 2, 1), ("turn", 2)])
            second.do(("pull", 1))
        one, other = first.view(0), second.view(2)
        self.same(one[0], other[0])
        count = min(len(one[2]), len(other[2]))
        self.assertGreaterEqual(count, 6)
        self.same((one[2][:count], one[3][:count]), (other[2][:count], other[3][:count]))
        # Both have made all steps up to the same wait, so all that they see is the same.
        self.same((one[1:], other[5]), (other[1:], "asks"))
        self.same(18 - 65536 + 65535, first.contents(0)[60])

    def test_random_worlds(self):
        """The same answers in a world of its own: is_view runs it alone."""
        for seed in range(500, 515):
            chance, world, model = random_world(seed)
            world.run([random_event(chance) for _ in range(60)])
            for pid in range(world.many):
                self.assertIs(True, is_view(world.view(pid)))

    def test_replay_needs_nothing_else(self):
        for seed in (1, 2, 3):
            events = [random_event(random.Random(seed)) for _ in range(5)]
            one, other = random_world(seed)[1], random_world(seed)[1]
            self.same(one.run(events), other.run(events))
            self.same(all_seen(one), all_seen(other))


if __name__ == "__main__":
    unittest.main()
