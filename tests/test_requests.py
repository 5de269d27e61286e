"""Requests of processes, [81], fork, [82], closed pipes, [83], waiting and settling, [84], the end, [85], the log, [88]."""

import unittest

from tests.cases import WardCase
from tests.worlds import ask, asking, program
from wardwork.rights import is_book
from wardwork.world import World

LOOP = program("jump 0")
# One handle of each kind with all marks, then pipe:0 and gate:0 and block:0 with less.
THINGS = [("pipe:0", "rwg"), ("gate:0", "rwg"), ("block:0", "rwg"), ("pipe:0", "r"), ("pipe:0", "w"), ("gate:0", "rg"),
          ("block:0", "r"), ("block:0", "w"), ("gate:0", "w")]


def world_of(*programs, roots=(), rooms=(2,), gates=(1,), blocks=1, **named):
    return World(list(programs), rooms=rooms, gates=gates, blocks=blocks, roots=list(roots), **named)


def roots_of(pid, things=THINGS):
    return [(pid, thing, marks) for thing, marks in things]


def answers(world, pid):
    return world.view(pid)[2]


class AnswerTest(WardCase):
    def told(self, *requests, roots=None, others=(LOOP,), first=(), right=None):
        """Runs process 0 with these requests, and others; asks for its answers."""
        roots = roots_of(0) + [(1, "pipe:0", "rw")] if roots is None else roots
        world = world_of(asking(*requests), *others, roots=roots, pages=10, slots=60)
        for event in first:
            world.do(event)
        for _ in range(10):
            world.do(("force", 0, 20))
        with self.subTest(requests=requests):
            self.same(right, answers(world, 0))
        return world

    def test_rest_self_handles(self):
        self.told((0,), (1,), (2,), right=[(1, 0), (1, 0), (1, 9)])
        world = world_of(LOOP, asking((1,), (2,)), roots=roots_of(0))
        world.do(("force", 1, 9))
        self.same([(1, 1), (1, 0)], answers(world, 1))

    def test_rest_ends_the_run(self):
        world = world_of(asking((0,), (1,), (0,)))
        self.same([(("turn", 9), 0, 1, "rest"), (("turn", 9), 0, 2, "rest"), (("turn", 9), 0, 0, "halt")],
                  world.run([("turn", 9)] * 3))

    def test_numbers_that_are_no_requests(self):
        self.told((13,), (14, 99, 99, 99), (1023,), (100, 0, 0, 0), right=[(0, 6)] * 4)

    def test_send_and_receive(self):
        world = self.told((3, 0, 7), (3, 4, 8), (4, 3), (4, 0), right=[(1, 0), (1, 0), (1, 7), (1, 8)])
        self.same([], world.pipe(0))
        # 1: no handle. 2: another kind, or the mark is away.
        self.told((3, 9, 7), (4, 9), (3, 1, 7), (4, 2), (3, 3, 7), (4, 4), (3, 65535 % 1024), right=[
            (0, 1), (0, 1), (0, 2), (0, 2), (0, 2), (0, 2), (0, 1)])
        # 5: the pipe is closed, if nobody else may receive or send.
        alone = roots_of(0)
        self.told((4, 0), (3, 0, 7), (3, 0, 8), (3, 0, 9), (4, 0), roots=alone, right=[
            (0, 5), (1, 0), (1, 0), (0, 5), (1, 7)])
        # It waits, if somebody may.
        self.told((4, 0), roots=alone + [(1, "pipe:0", "w")], right=[])
        self.told((3, 0, 7), (3, 0, 8), (3, 0, 9), roots=alone + [(1, "pipe:0", "r")], right=[(1, 0), (1, 0)])

    def test_acquire_and_release(self):
        world = self.told((5, 1), (5, 1), (5, 8), (6, 8), (6, 1), (6, 5), right=[
            (1, 0), (0, 4), (0, 4), (1, 0), (0, 4), (0, 4)])
        self.same([], world.gate(0))
        # For release no mark is needed.
        self.told((5, 9), (5, 0), (5, 5), (6, 9), (6, 0), (6, 2), (5, 1), (6, 5), right=[
            (0, 1), (0, 2), (0, 2), (0, 1), (0, 2), (0, 2), (1, 0), (1, 0)])
        world = self.told((5, 1), right=[(1, 0)])
        self.same([[], "halt"], [world.gate(0), world.status(0)])

    def test_release_with_a_right_that_is_gone(self):
        self.told((5, 1), (11, 8, 0), (11, 1, 0), (5, 1), (6, 1), (6, 8), right=[
            (1, 0), (1, 1), (1, 1), (0, 1), (1, 0), (0, 4)])
        # Its thing is still known.
        self.told((11, 0, 0), (6, 0), (3, 0, 7), right=[(1, 1), (0, 2), (0, 1)])

    def test_fetch_and_keep(self):
        world = self.told((7, 2, 7), (8, 2, 7, 500), (7, 6, 7), (8, 7, 0, 5), (7, 2, 0), right=[
            (1, 0), (1, 0), (1, 500), (1, 0), (1, 5)])
        self.same([5, 0, 0, 0, 0, 0, 0, 500], world.block(0))
        self.told((7, 2, 8), (8, 2, 8, 5), (7, 2, 1000), right=[(0, 4)] * 3)
        self.told((7, 9, 0), (8, 9, 0), (7, 7, 0), (8, 6, 0), (7, 0, 0), (8, 1, 0), right=[
            (0, 1), (0, 1), (0, 2), (0, 2), (0, 2), (0, 2)])

    def test_the_first_reason_of_two(self):
        # 1 ahead of 2 and 4: the handle is not there, or its right is gone.
        self.told((11, 0, 0), (3, 0, 0), (5, 0, 0), (7, 0, 8), (9, 0, 8, 0), (9, 9, 8, 8), (11, 0, 8), (11, 9, 8), (8, 9, 9),
                  right=[(1, 1)] + [(0, 1)] * 8)
        # 2 ahead of 4, 3 and 5.
        self.told((7, 7, 8), (8, 6, 8), (7, 0, 8), (9, 1, 5, 0), (9, 8, 5, 2), (9, 0, 5, 8), right=[(0, 2)] * 6)
        # The right lacks the mark, and the process holds the gate.
        self.told((5, 1), (5, 5), right=[(1, 0), (0, 2)])
        self.told((4, 4), roots=roots_of(0), right=[(0, 2)])
        # 6 ahead of 1.
        self.told((13, 99), right=[(0, 6)])

    def test_hand(self):
        world = self.told((9, 0, 1, 6), (9, 0, 0, 7), (9, 5, 1, 5), (2,), (9, 9, 1, 4), right=[
            (1, 0), (1, 1), (1, 2), (1, 10), (1, 3)])
        self.same([(10, 1, "pipe:0", "rw", 0), (11, 0, "pipe:0", "rwg", 0), (12, 1, "gate:0", "rg", 5),
                   (13, 1, "pipe:0", "r", 11)], world.rights()[10:])
        self.same(([*range(9), 11], [9, 10, 12, 13]), (world.handles(0), world.handles(1)))
        for number, marks in ((1, "g"), (2, "w"), (3, "wg"), (4, "r"), (5, "rg"), (6, "rw"), (7, "rwg")):
            world = self.told((9, 0, 1, number), right=[(1, 0)])
            self.same((10, 1, "pipe:0", marks, 0), world.rights()[-1])

    def test_hand_is_refused(self):
        # 2: without g, no marks, too many marks, marks that the right lacks.
        self.told((9, 3, 1, 4), (9, 4, 1, 2), (9, 0, 1, 0), (9, 0, 1, 8), (9, 5, 1, 2), (9, 5, 1, 7), (9, 5, 1, 6),
                  (9, 0, 1, 1023), right=[(0, 2)] * 8)
        # 4: nobody, or an ended process.
        self.told((9, 0, 2, 4), (9, 0, 7, 4), (9, 0, 8, 4), (9, 0, 1000, 4), right=[(0, 4)] * 4)
        self.told((9, 0, 1, 4), first=[("end", 1)], right=[(0, 4)])
        self.told((9, 0, 1, 4), others=(asking(),), first=[("force", 1, 1)], right=[(0, 4)])

    def test_hand_to_a_waiting_process(self):
        world = world_of(asking((9, 0, 1, 6), (0,)), asking((4, 0), (2,)), rooms=[2], roots=[
            (0, "pipe:0", "rwg"), (1, "pipe:0", "r")])
        world.run([("force", 1, 9), ("force", 0, 9)])
        self.same(("waiting", [1, 2]), (world.status(1), world.handles(1)))
        # The right of a waiting request is the one of the handle with which it asked.
        world = world_of(asking((9, 0, 1, 6), (11, 0, 3)), asking((4, 0), (4, 1)), LOOP, rooms=[2], roots=[
            (0, "pipe:0", "rwg"), (2, "pipe:0", "rw")])
        world.do(("force", 0, 4))
        world.do(("force", 1, 9))
        self.same(("waiting", [2]), (world.status(1), world.handles(1)))

    def test_100_rights(self):
        # Two rights are roots; 98 are handed on, and recalled ones count.
        text = "set d 7 ! set c 1 ! set b 0 ! trap 9 ! zero a 8 ! copy b b ! trap 10 ! jump 0 ! " + ask(9, 0, 1, 7)
        text += " ! " + ask(9, 0, 7, 7) + " ! " + ask(9, 1, 1, 7) + " ! " + ask(9, 5, 1, 7) + " ! halt"
        world = world_of(program(text), LOOP, roots=[(0, "pipe:0", "rwg"), (0, "pipe:0", "w")], pages=8, slots=60)
        while world.status(0) == "ready":
            world.do(("force", 0, 20))
        told = answers(world, 0)
        self.same([(1, 0), (1, 1), (1, 1), (1, 1)], told[:4])
        self.same([(1, 97), (1, 1), (0, 3)], told[194:197])
        # 4, 2 and 1 go ahead of 3.
        self.same([(0, 3), (0, 4), (0, 2), (0, 1)], told[197:])
        self.same(2, len(world.rights()))
        self.assertTrue(is_book(world.rights(), [(0, 0, "pipe:0", "rwg"), (1, 0, "pipe:0", "w")]))

    def test_recall(self):
        # A gift and what was handed on from it: two rights are gone.
        world = world_of(asking((9, 0, 1, 7), (9, 0, 1, 4), (0,), (10, 0), (10, 1), (10, 0), (10, 2)),
                         asking((9, 0, 0, 6), (2,)), roots=[(0, "pipe:0", "rwg")])
        world.run([("force", 0, 20), ("force", 1, 20), ("force", 0, 20)])
        self.same([(1, 0), (1, 1), (1, 0), (1, 2), (1, 1), (0, 1), (0, 1)], answers(world, 0))
        self.same([(0, 0, "pipe:0", "rwg", None)], world.rights())
        self.same(([0, 3], [1, 2]), (world.handles(0), world.handles(1)))
        # A process that did not hand anything on has no gifts, whatever handles it has.
        self.told((10, 0), (10, 65535 % 1024), right=[(0, 1), (0, 1)])

    def test_recall_from_an_ended_process(self):
        world = world_of(asking((9, 0, 1, 7), (0,), (10, 0)), asking(), roots=[(0, "pipe:0", "rwg")])
        world.run([("force", 0, 20), ("force", 1, 20)])
        self.same(2, len(world.rights()))
        world.do(("force", 0, 20))
        self.same([(1, 0), (1, 0), (1, 1)], answers(world, 0))
        self.same([(0, 0, "pipe:0", "rwg", None)], world.rights())

    def test_narrow(self):
        world = self.told((9, 0, 1, 4), (11, 0, 6), (9, 0, 1, 4), (11, 0, 7), (11, 0, 2), (11, 0, 0), (11, 0, 0), right=[
            (1, 0), (1, 1), (0, 2), (0, 2), (1, 0), (1, 1), (0, 1)])
        self.same([1, 2, 3, 4, 5, 6, 7, 8, 9], [row[0] for row in world.rights()])
        self.told((11, 0, 8), (11, 0, 1000), (11, 9, 0), (11, 9, 8), (11, 3, 2), (11, 3, 4), right=[
            (0, 2), (0, 2), (0, 1), (0, 1), (0, 2), (1, 0)])
        # The right itself is counted if it is gone; others lose marks and are gone if none is left.
        world = self.told((9, 0, 1, 2), (9, 0, 1, 5), (11, 0, 5), (11, 0, 0), right=[(1, 0), (1, 1), (1, 1), (1, 2)])
        self.same([*range(1, 10)], [row[0] for row in world.rights()])


class ForkTest(WardCase):
    def test_a_fork(self):
        text = "set a 40 ! set b 30 ! store a b ! set c 7 ! set d 9 ! trap 12 ! copy c a ! set b 31 ! store c b ! trap 0"
        world = world_of(program(text), roots=roots_of(0), priorities=[5], pages=5, gates=[2])
        self.same((("force", 0, 6), 0, 6, "interrupt"), world.do(("force", 0, 6)))
        self.same((2, "ready", (6, 2, 0, 7, 9), []), (world.many, world.status(1), world.core(1), world.handles(1)))
        self.same((6, 1, 1, 7, 9), world.core(0))
        self.same([(0, (12, 40, 30, 7, 9), (1, 1), None)], world.log())
        # Its base priority is that of the asking process; the memory is shared until it is written.
        self.same([(0, 5, 5, True, 0), (1, 5, 5, True, 0)], world.ages())
        self.same(world.contents(0), world.contents(1))
        table = world.tables()[0][1]
        self.same([(0, table), (1, table)], world.tables())
        self.same(((6, 2, 0, 7, 9), world.contents(0), [], [], 0, "limit", (6, 2, 0, 7, 9), world.contents(0)), world.view(1))
        world.run([("force", 1, 9), ("force", 0, 9)])
        self.same(([40, 2], [40, 1]), (world.contents(1)[30:32], world.contents(0)[30:32]))

    def test_eight_processes(self):
        # Each process forks for ever.
        world = World([program("trap 12 ! jump 0")], pages=1, slots=60)
        world.do(("turn", 20))
        self.same(8, world.many)
        self.same([(1, pid) for pid in range(1, 8)] + [(0, 3)] * 3, answers(world, 0))
        # Ended ones count.
        for pid in range(1, 8):
            world.do(("end", pid))
        world.do(("turn", 2))
        self.same((8, (0, 3)), (world.many, answers(world, 0)[-1]))

    def test_a_fork_of_a_fork(self):
        world = World([program("trap 12 ! trap 0 ! jump 0")], pages=1, slots=60)
        world.run([("force", 0, 2), ("force", 1, 2), ("force", 1, 3), ("force", 2, 2), ("force", 2, 3)])
        self.same([[(1, 1), (1, 0)], [(1, 0), (1, 2), (1, 0)], [(1, 0), (1, 3), (1, 0)], []],
                  [answers(world, pid) for pid in range(world.many)])
        self.same([(2, 0), (2, 1), (2, 2)], [world.view(pid)[0][1:3] for pid in (1, 2, 3)])

    def test_no_room(self):
        for frames, slots, many in ((1, 0, 1), (1, 1, 2), (2, 1, 3), (3, 2, 5)):
            world = World([program("trap 12 ! jump 0")], pages=1, frames=frames, slots=slots)
            world.do(("turn", 20))
            self.same((many, (0, 3)), (world.many, answers(world, 0)[-1]))
        # The end of a process makes room.
        world.do(("end", 1))
        world.do(("turn", 2))
        self.same(6, world.many)


class ClosedTest(WardCase):
    """[83]: each way in which a pipe closes for a process that waits."""

    # Process 0 receives or sends, process 1 has what keeps the pipe open.
    def waiting(self, n, other, **named):
        mark = "w" if n == 4 else "r"
        requests = [(4, 0)] if n == 4 else [(3, 0, 1)] * 2
        roots = [(0, "pipe:0", "rwg"), (1, "pipe:0", mark)]
        world = world_of(asking(*requests), asking(*other), LOOP, rooms=[1], roots=named.get("roots", roots))
        world.do(("force", 0, 20))
        self.same("waiting", world.status(0))
        return world

    def closes(self, world, *events):
        world.run(list(events))
        self.same(("ready", (0, 5)), (world.status(0), answers(world, 0)[-1]))

    def test_closed_for_who_waits(self):
        for n in (3, 4):
            # By the end of the other one: a halt, a fault, the event.
            self.closes(self.waiting(n, []), ("force", 1, 1))
            self.closes(self.waiting(n, []), ("end", 1))
            # By narrowing its right.
            self.closes(self.waiting(n, [(11, 0, 0), (0,)]), ("force", 1, 9))
            mark = "w" if n == 4 else "r"
            roots = [(0, "pipe:0", "rw"), (1, "pipe:0", mark + "g")]
            other = {"r": 4, "w": 2}[mark]
            self.closes(self.waiting(n, [(11, 0, 1), (0,)], roots=roots), ("force", 1, 9))
            self.waiting(n, [(11, 0, other), (0,)], roots=roots).do(("force", 1, 9))
        # By a recall.
        roots = [(0, "pipe:0", "rw"), (1, "pipe:0", "rg")]
        world = world_of(asking((3, 0, 1), (3, 0, 1)), asking((9, 0, 2, 4), (11, 0, 1), (0,), (10, 0)), LOOP, rooms=[1],
                         roots=roots)
        world.run([("force", 1, 3 + 1), ("force", 0, 20)])
        self.same("waiting", world.status(0))
        world.do(("force", 1, 20))
        self.same(("ready", (0, 5)), (world.status(0), answers(world, 0)[-1]))

    def test_still_open(self):
        # A right of a third process keeps it open; so does one of a waiting process.
        roots = [(0, "pipe:0", "rw"), (1, "pipe:0", "w"), (2, "pipe:0", "w")]
        world = self.waiting(4, [], roots=roots)
        world.do(("force", 1, 1))
        self.same("waiting", world.status(0))
        world.do(("put", 0, 9))
        self.same(("ready", (1, 9)), (world.status(0), answers(world, 0)[-1]))

    def test_its_own_rights_and_the_outside_do_not_count(self):
        world = world_of(asking((4, 0), (3, 0, 1), (3, 0, 1)), rooms=[1], roots=[(0, "pipe:0", "rw")] * 3)
        world.do(("force", 0, 20))
        self.same([(0, 5), (1, 0), (0, 5)], answers(world, 0))
        # Nor do rights of ended processes.
        world = world_of(asking((4, 0)), LOOP, rooms=[1], roots=[(0, "pipe:0", "r"), (1, "pipe:0", "w")])
        world.run([("end", 1), ("force", 0, 9)])
        self.same([(0, 5)], answers(world, 0))

    def test_a_closed_pipe_with_words_is_received(self):
        world = world_of(asking((4, 0), (4, 0)), LOOP, roots=[(0, "pipe:0", "r")])
        world.run([("put", 0, 6), ("force", 0, 20)])
        self.same([(1, 6), (0, 5)], answers(world, 0))


class WaitingTest(WardCase):
    """[84]: each way in which a waiting request is answered, and the order."""

    def test_receive(self):
        roots = [(0, "pipe:0", "r"), (1, "pipe:0", "w")]
        world = world_of(asking((4, 0)), asking((3, 0, 5), (3, 0, 6)), rooms=[1], roots=roots)
        self.same((("turn", 9), 0, 2, "wait"), world.do(("turn", 9)))
        self.same(("waiting", (2, 0, 0, 0, 0), [1], [(0, 3, 3, False, 0), (1, 3, 3, True, 1)]),
                  (world.status(0), world.core(0), world.ready(), world.ages()))
        self.same((("turn", 3), 1, 3, "interrupt"), world.do(("turn", 3)))
        # The row of the send stands ahead of that of the receive.
        self.same([(1, (3, 0, 0, 5, 0), (1, 0), "pipe:0"), (0, (4, 0, 0, 0, 0), (1, 5), "pipe:0")], world.log())
        self.same(("ready", (2, 1, 5, 0, 0), []), (world.status(0), world.core(0), world.pipe(0)))
        self.same([(0, 3, 3, True, 0), (1, 3, 3, True, 0)], world.ages())

    def test_send(self):
        roots = [(0, "pipe:0", "w"), (1, "pipe:0", "r")]
        world = world_of(asking((3, 0, 5), (3, 0, 6), (0,)), asking((4, 0), (4, 0)), rooms=[1], roots=roots)
        self.same("wait", world.do(("turn", 9))[3])
        self.same([5], world.pipe(0))
        world.do(("force", 1, 2))
        self.same(([6], "ready"), (world.pipe(0), world.status(0)))
        self.same([(0, (3, 0, 0, 5, 0), (1, 0), "pipe:0"), (1, (4, 0, 0, 0, 0), (1, 5), "pipe:0"),
                   (0, (3, 1, 0, 6, 0), (1, 0), "pipe:0")], world.log())

    def test_put_and_pull(self):
        roots = [(0, "pipe:0", "rw"), (1, "pipe:0", "rw")]
        world = world_of(asking((4, 0)), LOOP, rooms=[1], roots=roots)
        world.run([("force", 0, 9), ("put", 0, 9)])
        self.same([(None, (3, 0, 0, 9, 0), (1, 0), "pipe:0"), (0, (4, 0, 0, 0, 0), (1, 9), "pipe:0")], world.log())
        world = world_of(asking((3, 0, 8)), LOOP, rooms=[1], roots=roots)
        world.run([("put", 0, 7), ("force", 0, 9), ("pull", 0)])
        self.same([(None, (3, 0, 0, 7, 0), (1, 0), "pipe:0"), (None, (4, 0, 0, 0, 0), (1, 7), "pipe:0"),
                   (0, (3, 0, 0, 8, 0), (1, 0), "pipe:0")], world.log())
        self.same([8], world.pipe(0))

    def test_release(self):
        roots = [(pid, "gate:0", "w") for pid in range(4)]
        programs = [asking((5, 0), (0,), (6, 0), (0,))] + [asking((5, 0), (0,), (6, 0))] * 3
        world = world_of(*programs, roots=roots, priorities=[0, 2, 5, 5])
        world.run([("force", pid, 9) for pid in (0, 1, 3, 2)])
        self.same(([0], [1, 2, 3]), (world.gate(0), [pid for pid, others in world.waits()]))
        world.do(("force", 0, 9))
        # The greatest effective priority, and of two the one that has waited longest.
        self.same([3], world.gate(0))
        self.same([(0, (6, 1, 0, 0, 0), (1, 0), "gate:0"), (3, (5, 0, 0, 0, 0), (1, 0), "gate:0"),
                   (0, (0, 1, 0, 0, 0), (1, 0), None)], world.log()[2:])
        # A halt of the holder leaves the gates.
        world.do(("force", 3, 9))
        world.do(("end", 3))
        self.same([2], world.gate(0))
        world.do(("end", 2))
        self.same([1], world.gate(0))
        self.same([(2, None, None, None), (1, (5, 0, 0, 0, 0), (1, 0), "gate:0")], world.log()[-2:])

    def test_the_right_is_gone_or_narrowed(self):
        for n, thing, handed, mark in ((3, "pipe:0", 6, 2), (4, "pipe:0", 6, 4), (5, "gate:0", 3, 2), (3, "pipe:0", 2, 2)):
            for request in [(10, 0)] + [(11, 0, marks) for marks in range(8)]:
                # Without g nothing is left of what was handed on, otherwise the common marks.
                left = handed & request[2] if request[0] == 11 and request[2] & 1 else 0
                right = (0, 1) if not left else None if left & mark else (0, 2)
                with self.subTest(n=n, handed=handed, request=request):
                    self.narrowed(n, thing, handed, request, right)

    def narrowed(self, n, thing, handed, request, right):
        """Process 1 hands its right on to 0, which waits; then 1 makes this request."""
        giver = asking((9, 0, 0, handed), (0,), request, (0,))
        # Process 2 holds the gate, or keeps the pipe open.
        holder = {3: asking((3, 0, 5)), 4: LOOP, 5: asking((5, 0))}[n]
        world = world_of(asking((n, 0, 5), (0,)), giver, holder[:-1] + LOOP, rooms=[1],
                         roots=[(1, thing, "rwg"), (2, thing, "rw")])
        world.run([("force", 1, 5), ("force", 2, 3), ("force", 0, 9)])
        self.same("waiting", world.status(0))
        world.do(("force", 1, 9))
        self.same([] if right is None else [right], answers(world, 0))
        self.same("waiting" if right is None else "ready", world.status(0))
        if right:
            self.same([(0, (n, 0, 0, 5, 0), right, None)], [row for row in world.log() if row[0] == 0])
            # It does not stand in the queue any more.
            world.do(("end", 2))
            self.same([], world.gate(0))

    def test_its_own_handle_is_what_counts(self):
        # Process 0 has another right on the pipe, but it asked with the one that is gone.
        world = world_of(asking((4, 1), (4, 0)), asking((9, 0, 0, 4), (0,), (10, 0)), rooms=[1],
                         roots=[(0, "pipe:0", "r"), (1, "pipe:0", "rwg")])
        world.run([("force", 1, 5), ("force", 0, 9), ("force", 1, 9)])
        self.same([(0, 1)], answers(world, 0)[:1])

    def test_several_at_once_in_the_order_of_the_longest_wait(self):
        roots = [(pid, "pipe:0", "r") for pid in (0, 1, 2)] + [(3, "pipe:0", "w")]
        programs = [asking((4, 0))] * 3 + [asking((3, 0, 5), (3, 0, 6), (3, 0, 7))]
        for order in ((0, 1, 2), (2, 1, 0), (1, 2, 0)):
            world = world_of(*programs, rooms=[3], roots=roots)
            world.run([("force", pid, 9) for pid in order])
            world.do(("force", 3, 4))
            self.same([3, order[0]], [row[0] for row in world.log()])
            world.do(("force", 3, 9))
            self.same([3, order[0], 3, order[1], 3, order[2], 3], [row[0] for row in world.log()])
            # All at once, when the sender ends.
            world = world_of(*programs, rooms=[3], roots=roots)
            world.run([("force", pid, 9) for pid in order])
            world.do(("end", 3))
            self.same([(3, None, None, None)] + [(pid, (4, 0, 0, 0, 0), (0, 5), None) for pid in order], world.log())
            self.same([(row[0], 3, 3, True, 0) for row in world.ages()], world.ages())

    def test_all_are_asked_anew(self):
        # 0 waits to send to pipe 0, 1 waits to receive from pipe 1; 2 takes from pipe 0. What 0 sends is for nobody.
        roots = [(0, "pipe:0", "w"), (1, "pipe:0", "r"), (2, "pipe:0", "rw")]
        world = world_of(asking((3, 0, 1), (3, 0, 2), (3, 0, 3)), asking((4, 0), (4, 0), (4, 0), (4, 0)), LOOP, rooms=[1],
                         roots=roots)
        world.do(("force", 0, 20))
        self.same(([1], "waiting"), (world.pipe(0), world.status(0)))
        world.do(("force", 1, 20))
        # The first receive makes room: the send of 2 is answered. The second receive takes that.
        self.same([0, 1, 0, 1], [row[0] for row in world.log()])
        self.same(("waiting", "ready", []), (world.status(1), world.status(0), world.pipe(0)))

    def test_a_send_and_a_receive_that_wait_at_once(self):
        # A put goes to the one that waits to receive; the pipe is empty again.
        roots = [(0, "pipe:0", "r"), (1, "pipe:0", "r"), (2, "pipe:0", "w")]
        world = world_of(asking((4, 0), (4, 0)), asking((4, 0)), LOOP, rooms=[1], roots=roots)
        world.run([("force", 1, 9), ("force", 0, 9), ("put", 0, 1), ("put", 0, 2), ("put", 0, 3)])
        self.same([(None, 1), (1, 1), (None, 2), (0, 2), (None, 3)],
                  [(row[0], row[1][3] if row[0] is None else row[2][1]) for row in world.log()])


class EndTest(WardCase):
    """[85]."""

    def test_a_waiting_process_is_ended(self):
        for n, thing in ((4, "pipe:0"), (5, "gate:0")):
            world = world_of(asking((n, 0)), asking((5, 1), (0,)), LOOP, roots=[
                (0, thing, "rw"), (1, "pipe:0", "w"), (1, "gate:0", "w")])
            world.run([("force", 1, 9), ("force", 0, 9)])
            self.same("waiting", world.status(0))
            self.same((("end", 0), 0, 0, "ended"), world.do(("end", 0)))
            self.same(("ended", (2, 0, 0, 0, 0), [], [[1]]), (world.status(0), world.core(0), world.waits(), [world.gate(0)]))
            self.same((0, None, None, None), world.log()[-1])
            self.same(("asks", [(n, 0, 0, 0, 0)], []), (world.view(0)[5], world.view(0)[3], world.view(0)[2]))
            # It left the queue, so nobody is next.
            world.do(("end", 1))
            self.same([], world.gate(0))

    def test_gates_are_left_in_their_order(self):
        holder = asking((5, 2), (5, 0), (5, 1), (0,), (0,))
        roots = [(0, f"gate:{k}", "w") for k in range(3)] + [(3 - k, f"gate:{k}", "w") for k in range(3)]
        for how in ("end", "halt", "fault"):
            end = {"end": holder, "halt": holder, "fault": holder[:-1] + [1]}[how]
            world = world_of(end, *[asking((5, 0), (0,))] * 3, gates=[1, 1, 1], roots=roots)
            world.run([("force", 0, 20), ("force", 1, 9), ("force", 2, 9), ("force", 3, 9)])
            # Process 3 - k waits for gate k.
            self.same([1, 2, 3], [pid for pid, others in world.waits()])
            count = len(world.log())
            world.run([("end", 0)] if how == "end" else [("force", 0, 20)] * 2)
            rows = [row for row in world.log()[count:] if row[1] is None or row[1][0] == 5]
            self.same([(0, None, None, None)] + [(3 - k, (5, 0, 0, 0, 0), (1, 0), f"gate:{k}") for k in range(3)], rows)
            self.same([[3], [2], [1]], [world.gate(k) for k in range(3)])
            self.same({"end": "ended", "halt": "halt", "fault": "code"}[how], world.status(0))

    def test_next_holders_are_answered_ahead_of_settling(self):
        # 1 waits for the gate of 0, 2 has waited longer for a word of 0.
        roots = [(0, "gate:0", "w"), (0, "pipe:0", "w"), (1, "gate:0", "w"), (2, "pipe:0", "r")]
        world = world_of(asking((5, 0), (0,)), asking((5, 0)), asking((4, 0)), roots=roots)
        world.run([("force", 0, 9), ("force", 2, 9), ("force", 1, 9), ("end", 0)])
        self.same([(0, None, None, None), (1, (5, 0, 0, 0, 0), (1, 0), "gate:0"), (2, (4, 0, 0, 0, 0), (0, 5), None)],
                  world.log()[2:])

    def test_rights_stay_live(self):
        world = world_of(asking((9, 0, 1, 6)), asking((3, 0, 5)), roots=[(0, "pipe:0", "rwg")])
        world.run([("force", 0, 9), ("force", 1, 9)])
        self.same(("halt", [(0, 0, "pipe:0", "rwg", None), (1, 1, "pipe:0", "rw", 0)]), (world.status(0), world.rights()))
        self.same([(1, 0)], answers(world, 1))

    def test_the_memory_is_given_back(self):
        world = World([asking(), LOOP], pages=1, frames=1, slots=1)
        self.same([(0, [("slot", 0)]), (1, [("frame", 0)])], world.tables())
        world.do(("turn", 1))
        # The step of 0 brought its page in; its frame is free now.
        self.same([(1, [("slot", 0)])], world.tables())
        self.same([0] * 8, world.contents(0))


class LogTest(WardCase):
    def test_things_of_rows(self):
        # The thing stands in rows of 3 to 8 that are answered (1, y), and in no others.
        world = world_of(asking((0,), (1,), (2,), (3, 0, 7), (4, 0), (4, 0), (5, 1), (5, 1), (6, 1), (7, 2, 0), (8, 2, 1, 2),
                                (7, 2, 9), (9, 0, 0, 7), (11, 9, 0), (10, 0), (13,)), roots=roots_of(0), pages=10, slots=60)
        while world.status(0) == "ready":
            world.do(("force", 0, 20))
        things = [row[3] for row in world.log()]
        self.same([None, None, None, "pipe:0", "pipe:0", None, "gate:0", None, "gate:0", "block:0", "block:0", None, None,
                   None, None, None, None], things)
        self.same([(0, n) for n in (0, 1, 2, 3, 4, 4, 5, 5, 6, 7, 8, 7, 9, 11, 10, 13)],
                  [(row[0], row[1][0]) for row in world.log()[:-1]])
        self.same([row[1] for row in world.log()[:-1]], world.view(0)[3])
        self.same([row[2] for row in world.log()[:-1]], world.view(0)[2])
        self.same((0, None, None, None), world.log()[-1])


if __name__ == "__main__":
    unittest.main()
