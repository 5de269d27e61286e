"""Views, [91] and is_view, [92], project, [93], is_told, [94], replay and is_record, [95]."""

import copy
import random
import unittest

from tests.cases import WardCase
from tests.test_world import NO_EVENTS
from tests.test_world_model import random_world
from tests.values import ANYTHING, NO_INTEGERS, NO_WORDS, no_integers_of
from tests.worlds import asking, program, random_event, world_seen
from wardwork.histories import is_record, is_told, is_view, project, replay
from wardwork.machine import run_alone
from wardwork.world import World

LOOP = program("jump 0")


def parts_of(value, way=()):
    """The ways to all parts of a plain value, at any depth."""
    yield way
    if isinstance(value, (list, tuple)):
        for at, part in enumerate(value):
            yield from parts_of(part, (*way, at))


def part_at(value, way):
    for at in way:
        value = value[at]
    return value


def put_at(value, way, part):
    """A copy of the value with another part at this place."""
    if not way:
        return part
    copied = list(value)
    copied[way[0]] = put_at(copied[way[0]], way[1:], part)
    return copied if isinstance(value, list) else tuple(copied)


def other_kinds(value):
    """Values that are no right values in the place of this one, whatever stands around."""
    if isinstance(value, list):
        return [tuple(value), None, 0, "", True]
    if isinstance(value, tuple):
        return [list(value), None, 0, "", value + (0,), value[:-1]]
    if isinstance(value, str):
        return [value + "x", None, 0, [], True]
    if value is None:
        return [False, "", [], (), -1]
    wrong = [str(value), [value], (value,), None, -1, 65536]
    return wrong + ([value == 1] if value in (0, 1) else [])


def busy_world(ends=False):
    """A world in which two processes send, receive, hold gates, use blocks and fork."""
    one = asking((3, 0, 7), (5, 1), (8, 2, 3, 9), (0,), (6, 1), (12,), (7, 2, 3), (3, 9, 1))
    two = asking((5, 1), (4, 0), (4, 0), (1,), (7, 2, 8))
    things = ["pipe:0", "gate:0", "block:0"]
    roots = [(pid, thing, "rwg") for pid in (0, 1) for thing in things]
    world = World([one, two, LOOP], pages=4, rooms=[2], gates=[1], blocks=1, roots=roots, slots=60)
    world.run([("force", 0, 20), ("put", 0, 5), ("force", 1, 20), ("force", 0, 6), ("force", 1, 20), ("pull", 0)])
    if ends:
        world.run([("force", 0, 20)] * 3 + [("force", 1, 20)] * 2 + [("force", 3, 20)] * 2 + [("end", 2)])
    return world


class ViewTest(WardCase):
    def test_views_of_a_world(self):
        for ends in (False, True):
            world = busy_world(ends)
            for pid in range(world.many):
                self.assertIs(True, is_view(world.view(pid)))
                self.assertIs(True, is_view(view=world.view(pid)))
        self.same(["halt", "halt", "limit", "halt"], [world.view(pid)[5] for pid in range(4)])
        world = busy_world()
        self.same((0, 0, 0, 0, 0), world.view(0)[0])
        self.same(world.setup[0][0], world.view(0)[1][:len(world.setup[0][0])])

    def test_each_ending(self):
        for text, ending, steps in (("halt", "halt", 0), ("word 1", "code", 0), ("set a 1 ! jump 999", "fetch", 2),
                                    ("set a 999 ! load a a", "address", 1), ("div a a", "divide", 0),
                                    ("set b 1 ! add a b ! jump 1", "limit", 20),
                                    ("set b 0 ! trap 4", "asks", 2)):
            world = World([program(text), LOOP], rooms=[1], roots=[(0, "pipe:0", "r"), (1, "pipe:0", "w")])
            world.do(("force", 0, 20))
            view = world.view(0)
            self.same((ending, steps, True), (view[5], view[4], is_view(view)))
            for other in ("halt", "code", "fetch", "address", "divide", "limit", "asks", "ended", "ready", "waiting", ""):
                wrong = view[:5] + (other,) + view[6:]
                # Ahead of a halt or a fault, a view of as many steps has not ended.
                right = other == ending or (other == "limit" and ending != "asks")
                self.assertIs(right, is_view(wrong), (ending, other))
            for other in range(25):
                self.assertIs(other == steps, is_view(view[:4] + (other,) + view[5:]), (ending, other))
            # Ended by the event, it keeps the ending.
            if ending in ("limit", "asks"):
                world.do(("end", 0))
                self.same(view, world.view(0))

    def test_each_part_spoilt(self):
        for pid, ends in ((0, False), (1, False), (0, True), (3, True)):
            view = busy_world(ends).view(pid)
            kept = copy.deepcopy(view)
            for way in parts_of(view):
                part = part_at(view, way)
                for value in other_kinds(part):
                    self.assertIs(False, is_view(put_at(view, way, value)), (way, value))
                if isinstance(part, int):
                    start, before, answers, *rest = put_at(view, way, part + 1)
                    limit = rest[1] + (rest[2] not in ("limit", "asks"))
                    ending, steps, core, contents, asked = run_alone(start, before, answers, limit=limit)
                    right = rest == [asked, steps, ending, core, contents]
                    self.assertIs(right, is_view((start, before, answers, *rest)), way)
                    # Only a word that is never read may be another one.
                    self.assertFalse(right and way[0] > 2, way)
            self.same(kept, view)

    def test_another_right_view(self):
        # A judge accepts every view that meets the conditions, not only that of a world.
        self.assertIs(True, is_view(((0, 0, 0, 0, 0), [0] * 8, [], [], 0, "halt", (0, 0, 0, 0, 0), [0] * 8)))
        self.assertIs(True, is_view(((9, 1, 2, 3, 4), [5] * 8, [], [], 0, "fetch", (9, 1, 2, 3, 4), [5] * 8)))
        words = program("trap 1023 ! jump 0") + [0] * 6
        view = ((0, 5, 6, 7, 8), words, [(65535, 3)], [(1023, 5, 6, 7, 8)], 1, "limit", (1, 65535, 3, 7, 8), words)
        self.assertIs(True, is_view(view))
        asks = ((0, 5, 6, 7, 8), words, [], [(1023, 5, 6, 7, 8)], 1, "asks", (1, 5, 6, 7, 8), words)
        self.assertIs(True, is_view(asks))
        for wrong in (view[:2] + ([(65535, 3)] * 2,) + view[3:], view[:2] + ([],) + view[3:],
                      asks[:2] + ([(0, 1)],) + asks[3:], view[:2] + ([(65536, 3)],) + view[3:],
                      view[:2] + ([[65535, 3]],) + view[3:], view[:2] + ([(65535, 3, 0)],) + view[3:]):
            self.assertIs(False, is_view(wrong), wrong)

    def test_2000_steps(self):
        words = program("trap 0 ! jump 0") + [0] * 6
        for steps, right in ((2000, True), (2001, False)):
            asked = [(0, 1 if k else 0, 0, 0, 0) for k in range((steps + 1) // 2)]
            view = ((0,) * 5, words, [(1, 0)] * len(asked), asked, steps, "limit", (steps % 2, 1, 0, 0, 0), words)
            self.assertIs(right, is_view(view))
        loop = LOOP + [0] * 7
        self.assertIs(True, is_view(((0,) * 5, loop, [], [], 2000, "limit", (0,) * 5, loop)))
        self.assertIs(False, is_view(((0,) * 5, loop, [], [], 2001, "limit", (0,) * 5, loop)))
        words = program("trap 0") + [0] * 7
        many = [(1, 0)] * 2001
        self.assertIs(False, is_view(((0,) * 5, words, many, [(0,) * 5] * 2001, 2000, "limit", (0,) * 5, words)))

    def test_sizes_of_memories(self):
        for size in range(0, 145):
            words = [0] * size
            view = ((0,) * 5, words, [], [], 0, "halt", (0,) * 5, words)
            self.assertIs(size % 8 == 0 and 8 <= size <= 128, is_view(view), size)

    def test_values_that_are_no_views(self):
        for value in ANYTHING + [[], ((),) * 8, (None,) * 8, [None] * 8, ([],) * 8, (0,) * 8, ("",) * 8]:
            self.assertIs(False, is_view(value), value)
        for seed in range(300):
            self.assertIs(False, is_view(tuple(random.Random(seed).choices(ANYTHING + [(0,) * 5, [0] * 8, [], 0, "halt"], k=8))))


class ProjectTest(WardCase):
    def test_rows_of_a_process(self):
        world = busy_world(True)
        for pid in range(world.many):
            asked, answers = project(world.log(), pid)
            self.same((world.view(pid)[3], world.view(pid)[2]), (asked, answers))
        self.same(([], []), project(world.log(), 7))
        self.same(([], []), project([], 0))
        self.same(([], []), project(log=[(0, None, None, None)], pid=0))
        log = [(1, (0,) * 5, (1, 0), None), (None, (4, 0, 0, 0, 0), (1, 1), "pipe:0"), (0, (1,) * 5, (0, 6), None)]
        self.same(([(1,) * 5], [(0, 6)]), project(log, 0))
        self.refused(project, {"log": log, "pid": 0}, {"pid": no_integers_of(0, 7)})

    def test_a_last_request_that_is_not_answered(self):
        world = World([asking((4, 0)), LOOP], rooms=[1], roots=[(0, "pipe:0", "r"), (1, "pipe:0", "w")])
        world.do(("turn", 9))
        self.same((([], []), [(4, 0, 0, 0, 0)]), (project(world.log(), 0), world.view(0)[3]))

    def test_first_rows_of_a_log(self):
        log = busy_world(True).log()
        for many in range(len(log) + 1):
            asked, answers = project(log[:many], 0)
            rows = [row for row in log[:many] if row[0] == 0 and row[1]]
            self.same(([row[1] for row in rows], [row[2] for row in rows]), (asked, answers))

    def test_lists_are_new(self):
        log = busy_world().log()
        kept = list(log)
        for told in project(log, 0):
            told.clear()
        self.same(kept, log)


SEND = (0, (3, 0, 0, 7, 0), (1, 0), "pipe:0")
RECEIVE = (1, (4, 0, 0, 0, 0), (1, 7), "pipe:0")
PUT = (None, (3, 0, 0, 7, 0), (1, 0), "pipe:0")
PULL = (None, (4, 0, 0, 0, 0), (1, 7), "pipe:0")
TAKE = (0, (5, 9, 9, 9, 9), (1, 0), "gate:0")
GIVE = (0, (6, 9, 9, 9, 9), (1, 0), "gate:0")
KEEP = (0, (8, 0, 0, 3, 7), (1, 0), "block:0")
FETCH = (1, (7, 0, 0, 3, 0), (1, 7), "block:0")
END = (0, None, None, None)
ALL = [SEND, RECEIVE, PUT, PULL, TAKE, GIVE, KEEP, FETCH, END]


def changed(row, **parts):
    names = ("pid", "request", "answer", "thing")
    return tuple(parts.get(name, part) for name, part in zip(names, row))


class ToldTest(WardCase):
    def told(self, right, *logs, rooms=(1, 2), gates=(1, 2), blocks=2):
        for log in logs:
            with self.subTest(log=log):
                self.assertIs(right, is_told(log, rooms=rooms, gates=gates, blocks=blocks))
                self.assertIs(right, is_told(log, rooms=list(rooms), gates=list(gates), blocks=blocks))

    def test_right_logs(self):
        self.told(True, [], ALL, [SEND, PULL], [PUT, RECEIVE], [END], [KEEP, FETCH, FETCH], [TAKE, GIVE] * 3)
        self.assertIs(True, is_told(log=ALL, rooms=(1,), gates=[1], blocks=1))
        self.told(True, [(7, (0, 0, 0, 0, 0), (1, 65535), None), (7, (1023, 65535, 1, 2, 3), (0, 6), None)])

    def test_other_shapes(self):
        for at, row in enumerate(ALL):
            for way in parts_of(row):
                for value in other_kinds(part_at(row, way)):
                    # A send or a receive without a process is a put or a pull.
                    if not (value is None and way == (0,) and row in (SEND, RECEIVE)):
                        self.told(False, put_at(ALL, (at, *way), value))
            for part in (row[:3], row + (None,), list(row), (), None, 0, "", [row], (row,)):
                self.told(False, ALL[:at] + [part] + ALL[at + 1:])
        for value in ANYTHING + [tuple(ALL), [ALL], [None], [()]]:
            if value != [(0, None, None, None)]:
                self.told(False, value)

    def test_pids(self):
        for pid in [x for x in no_integers_of(0, 7) if x is not None]:
            for row in (SEND, TAKE, END, (0, (0,) * 5, (1, 0), None)):
                self.told(False, [changed(row, pid=pid)])
        self.told(True, *[[changed(row, pid=pid)] for pid in range(8) for row in (SEND, TAKE, END)])
        self.told(False, [changed(END, pid=None)])

    def test_requests_and_answers(self):
        other = (0, (0, 0, 0, 0, 0), (1, 0), None)
        for n in [x for x in no_integers_of(0, 1023)]:
            self.told(False, [changed(other, request=(n, 0, 0, 0, 0))])
        for word in NO_WORDS:
            for at in range(1, 5):
                self.told(False, [put_at(other, (1, at), word)])
            self.told(False, [changed(other, answer=(1, word))])
        for reason in range(1, 7):
            self.told(True, [changed(other, answer=(0, reason))], [changed(SEND, answer=(0, reason), thing=None)])
        for answer in ((0, 0), (0, 7), (0, -1), (0, 65535), (2, 0), (2, 1), (-1, 1), (65535, 1), (True, 0), (False, 1), (0, True),
                       (1,), (1, 0, 0), [1, 0], (), None, "10", (None, 1), (1, None)):
            self.told(False, [changed(other, answer=answer)], [changed(SEND, answer=answer)],
                      [changed(SEND, answer=answer, thing=None)])

    def test_rows_without_effect(self):
        # Nothing else is asked of them: neither the reason nor the registers.
        for n in range(14):
            for answer in ((0, 1), (0, 5), (0, 6)):
                self.told(True, [(3, (n, 1, 2, 3, 4), answer, None)])
                self.told(False, [(3, (n, 1, 2, 3, 4), answer, "pipe:0")], [(3, (n, 1, 2, 3, 4), answer, "gate:0")])
            row = (3, (n, 1, 2, 3, 4), (1, 9), None)
            self.told(not 3 <= n <= 8, [row])
            self.told(False, [changed(row, thing="pipe:0")], [changed(row, thing="gate:0")], [changed(row, thing="block:0")])
        # They change nothing.
        self.told(True, [changed(SEND, answer=(0, 5), thing=None), PUT, RECEIVE])
        self.told(False, [changed(SEND, answer=(0, 5), thing=None), RECEIVE])

    def test_things(self):
        for row, kind in ((SEND, "pipe"), (TAKE, "gate"), (KEEP, "block"), (PUT, "pipe")):
            for thing in ("pipe:0", "pipe:1", "gate:0", "gate:1", "block:0", "block:1"):
                self.told(thing.startswith(kind), [changed(row, thing=thing)])
            for thing in (f"{kind}:2", f"{kind}:-1", kind, kind + ":", kind + ":00", kind + ":0 ", "", "a", None, 0, [kind + ":0"],
                          (kind + ":0",), True):
                self.told(False, [changed(row, thing=thing)])
        self.assertIs(False, is_told([SEND], rooms=(), gates=(1,), blocks=1))
        self.assertIs(False, is_told([TAKE], rooms=(1,), gates=(), blocks=1))
        self.assertIs(False, is_told([KEEP], rooms=(1,), gates=(1,), blocks=0))

    def test_pipes(self):
        word = lambda row, c: put_at(row, (1, 3), c)
        got = lambda row, y: changed(row, answer=(1, y))
        # Full, empty, the oldest first, the answer of a send.
        self.told(True, [SEND, RECEIVE, SEND, RECEIVE], [word(SEND, 65535), got(RECEIVE, 65535)])
        self.told(False, [SEND, SEND], [SEND, PUT], [RECEIVE], [PULL], [SEND, RECEIVE, RECEIVE], [SEND, got(RECEIVE, 8)],
                  [SEND, got(PULL, 0)], [got(SEND, 7)], [got(SEND, 1)], [got(RECEIVE, 0)])
        second = [changed(row, thing="pipe:1") for row in (word(SEND, 1), word(PUT, 2), word(SEND, 3))]
        take = [changed(got(row, y), thing="pipe:1") for row, y in ((RECEIVE, 1), (PULL, 2))]
        self.told(True, second[:2] + take, second[:1] + take[:1], [second[0], SEND, take[0], RECEIVE])
        self.told(False, second, second[:2] + take[::-1], second[:1] + take, [SEND, changed(RECEIVE, thing="pipe:1")])
        # The other registers of a process do not matter.
        self.told(True, [(0, (3, 5, 6, 7, 8), (1, 0), "pipe:0"), (0, (4, 5, 6, 7, 8), (1, 7), "pipe:0")])

    def test_puts_and_pulls(self):
        for at in (1, 2, 4):
            self.told(False, [put_at(PUT, (1, at), 1)])
        for at in (1, 2, 3, 4):
            self.told(False, [PUT, put_at(PULL, (1, at), 1)])
        self.told(True, [put_at(PUT, (1, 3), 65535)])
        for answer in ((0, 5), (0, 1), (1, 1)):
            self.told(False, [changed(PUT, answer=answer)], [changed(PUT, answer=answer, thing=None)])
        self.told(False, [changed(PULL, answer=(0, 5), thing=None)], [changed(TAKE, pid=None)], [changed(KEEP, pid=None)],
                  [(None, (0, 0, 0, 0, 0), (1, 0), None)], [(None, (5, 0, 0, 0, 0), (1, 0), "gate:0")],
                  [(None, (7, 0, 0, 0, 0), (1, 0), "block:0")], [(None, (3, 0, 0, 7, 0), (1, 0), None)],
                  [(None, (3, 0, 0, 7, 0), (1, 0), "gate:0")], [(None, (13, 0, 0, 0, 0), (0, 6), None)])

    def test_gates(self):
        two = [changed(row, thing="gate:1", pid=pid) for pid in (0, 1, 2) for row in (TAKE,)]
        other = changed(TAKE, pid=1)
        self.told(True, two[:2], [TAKE, GIVE, other], [TAKE, changed(TAKE, thing="gate:1"), GIVE], [TAKE, END, other],
                  [*two[:2], END, two[2]], [two[0], TAKE, END, other, two[1], two[2]])
        self.told(False, [TAKE, TAKE], [TAKE, other], two, [GIVE], [TAKE, GIVE, GIVE], [TAKE, changed(GIVE, pid=1)],
                  [two[0], two[0]], [TAKE, changed(GIVE, thing="gate:1")], [changed(TAKE, answer=(1, 1))],
                  [TAKE, changed(GIVE, answer=(1, 1))], [TAKE, changed(END, pid=1), other], [other, END, TAKE],
                  [changed(TAKE, pid=1), END, changed(TAKE, pid=2)])

    def test_blocks(self):
        fetch = lambda c, y: (5, (7, 1, 2, c, 4), (1, y), "block:0")
        keep = lambda c, d: (6, (8, 1, 2, c, d), (1, 0), "block:0")
        self.told(True, [fetch(c, 0) for c in range(8)], [keep(c, c + 9) for c in range(8)] + [fetch(c, c + 9) for c in range(8)],
                  [keep(0, 65535), fetch(0, 65535), keep(0, 0), fetch(0, 0)], [keep(3, 7), changed(fetch(3, 0), thing="block:1")])
        self.told(False, [fetch(8, 0)], [keep(8, 0)], [fetch(0, 1)], [keep(0, 7), fetch(1, 7)], [keep(0, 7), fetch(0, 0)],
                  [changed(keep(0, 7), answer=(1, 7))], [changed(keep(0, 7), answer=(1, 1))], [fetch(65535, 0)],
                  [keep(3, 7), changed(fetch(3, 7), thing="block:1")])

    def test_ends(self):
        self.told(True, [SEND, END], [END, changed(END, pid=1)], [END, RECEIVE][:1], [END, PUT, RECEIVE])
        self.told(False, [END, SEND], [END, END], [END, (0, (0,) * 5, (1, 0), None)], [SEND, END, RECEIVE, END],
                  [END, (0, (13, 0, 0, 0, 0), (0, 6), None)])

    def test_logs_of_worlds_and_spoilt_ones(self):
        world = busy_world(True)
        named = {"rooms": world.setup[5], "gates": world.setup[6], "blocks": world.setup[7]}
        log = world.log()
        for many in range(len(log) + 1):
            self.assertIs(True, is_told(log[:many], **named))
        told = []
        for at in range(len(log)):
            if log[at][3]:
                told.append(is_told(log[:at] + log[at + 1:], **named))
                self.assertIs(False, is_told(log[:at] + [changed(log[at], thing=None)] + log[at + 1:], **named))
        self.assertIn(False, told)

    def test_lists_are_not_changed(self):
        rooms, gates, log = [1], [1], list(ALL)
        is_told(log, rooms=rooms, gates=gates, blocks=1)
        self.same(([1], [1], ALL), (rooms, gates, log))


class RecordTest(WardCase):
    def test_replay(self):
        for ends in (False, True):
            world = busy_world(ends)
            record = world.record()
            again = replay(world.setup, record)
            self.assertIsInstance(again, World)
            self.same((world_seen(world), record, world.log(), world.certificate()),
                      (world_seen(again), again.record(), again.log(), again.certificate()))
            for many in range(len(record) + 1):
                part = replay(setup=world.setup, record=record[:many])
                self.same(record[:many], part.record())
                self.assertIs(True, is_record(record[:many], world.setup))
        self.same(world_seen(World.built(world.setup)), world_seen(replay(world.setup, [])))

    def test_a_replayed_world_goes_on(self):
        for seed in range(10):
            chance, world, model = random_world(seed)
            world.run([random_event(chance) for _ in range(20)])
            again = replay(world.setup, world.record())
            for _ in range(20):
                event = random_event(chance)
                self.same(world.do(event), again.do(event))
                self.same(world_seen(world), world_seen(again))

    def test_200_rows(self):
        world = World([LOOP])
        world.run([("turn", 1)] * 200)
        self.assertIs(True, is_record(world.record(), world.setup))
        self.assertIs(True, is_record(record=[], setup=world.setup))
        world.do(("turn", 1))
        self.assertIs(False, is_record(world.record(), world.setup))
        self.same(201, len(replay(world.setup, world.record()).record()))

    def test_each_part_spoilt(self):
        world = busy_world(True)
        record, setup = world.record(), world.setup
        kept = (list(record), setup)
        for way in parts_of(record):
            part = part_at(record, way)
            values = other_kinds(part) + ([part + 1, part - 1] if isinstance(part, int) else [])
            for value in values:
                wrong = put_at(record, way, value)
                # A turn of more steps than a process makes gives the same row but for the event.
                if is_record(wrong, setup):
                    self.same(wrong, replay(setup, wrong).record())
                    self.assertTrue(len(way) == 3 and isinstance(part, int) and isinstance(value, int), (way, value))
                    self.assertNotIsInstance(value, bool)
        self.same(kept, (record, setup))

    def test_other_rows(self):
        world = World([LOOP, program("trap 0 ! jump 0")], rooms=[1])
        record = world.run([("turn", 1), ("put", 0, 1), ("pull", 0), ("force", 1, 5), ("force", 7, 1), ("end", 1), ("put", 0, 0),
                            ("pull", 0)])
        self.same([0, None, None, 1, None, 1, None, None], [row[1] for row in record])
        self.assertIs(True, is_record(record, world.setup))
        for at, row in enumerate(record):
            for wrong in (row[:1] + (2,) + row[2:], row[:1] + (None if row[1] is not None else 0,) + row[2:],
                          row[:1] + (True if row[1] == 1 else False,) + row[2:], row[:2] + (row[2] + 1,) + row[3:],
                          row[:2] + (True if row[2] else False,) + row[3:], row[:3] + ("x",), row[:3] + (None,),
                          row[:3] + ("idle" if row[3] != "idle" else "put",), row[:3] + (True,), row[:3] + (False,),
                          row[:3] + (2,), list(row), row[:3], row + (0,), [row], None, (), (row[0],), (None,) + row[1:],
                          (list(row[0]),) + row[1:]):
                self.assertIs(False, is_record(record[:at] + [wrong] + record[at + 1:], world.setup), wrong)
            for event in NO_EVENTS:
                self.assertIs(False, is_record(record[:at] + [(event,) + row[1:]] + record[at + 1:], world.setup), event)
        self.assertIs(False, is_record(record, World([LOOP]).setup))
        self.assertIs(False, is_record(record[:1] + record, World([LOOP, LOOP, LOOP]).setup))

    def test_values_that_are_no_records(self):
        setup = busy_world().setup
        for value in ANYTHING + NO_INTEGERS + [tuple(busy_world().record()), [busy_world().record()]]:
            if value != []:
                self.assertIs(False, is_record(value, setup), value)

    def test_random_worlds(self):
        for seed in range(40, 60):
            chance, world, model = random_world(seed)
            world.run([random_event(chance) for _ in range(30)])
            record = world.record()
            self.assertIs(True, is_record(record, world.setup))
            at = chance.randrange(30)
            row = record[at]
            wrong = row[:3] + ("halt" if row[3] != "halt" else "rest",)
            self.assertIs(False, is_record(record[:at] + [wrong] + record[at + 1:], world.setup))


if __name__ == "__main__":
    unittest.main()
