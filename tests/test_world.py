"""World: its parameters, [79], processes, [80], events, [86] and [87], questions, [89], and waits, [90]."""

import itertools
import unittest

from tests.cases import WardCase
from tests.values import NO_INTEGERS, NO_WORDS, no_integers_of
from tests.worlds import all_seen, ask, asking, program
from wardwork.ages import Ages
from wardwork.errors import BadArgument, Full, Unknown
from wardwork.waits import is_ring
from wardwork.world import World

HALT = [0]
LOOP = program("jump 0")
SETUP = {"programs": [HALT], "pages": 1, "priorities": [], "frames": 1, "slots": 0, "rooms": [], "gates": [], "blocks": 0,
         "roots": []}
NAMES = list(SETUP)
NO_EVENTS = NO_INTEGERS + [
    "turn", ("turn",), ("turn", 0), ("turn", 21), ("turn", 1, 1), ["turn", 1], ("turn", True), ("turn", "1"), ("turn", None),
    ("turn", [1]), ("turn", -1), ("Turn", 1), ("turns", 1), ("turn ", 1), (1, "turn"), ("turn", (1,)), (("turn", 1),),
    ("force",), ("force", 0), ("force", 0, 0), ("force", 0, 21), ("force", 8, 1), ("force", -1, 1), ("force", True, 1),
    ("force", 0, False), ("force", 0, 1, 1), ["force", 0, 1], ("force", None, 1), ("put", 0), ("put", 8, 0), ("put", -1, 0),
    ("put", 0, 65536), ("put", 0, -1), ("put", 0, True), ("put", False, 0), ("put", 0, 0, 0), ["put", 0, 0], ("put", 0, None),
    ("pull",), ("pull", 8), ("pull", -1), ("pull", False), ("pull", 0, 0), ["pull", 0], ("pull", None), ("end",), ("end", 8),
    ("end", -1), ("end", True), ("end", 0, 0), ["end", 0], ("end", "0"), ("", 1), (None, 1), ([], 1), ((), 1), (0, 1)]


def no_numbers(least, most):
    """Wrong values for a list or a tuple of at most eight numbers."""
    wrong = [True, False, None, 0, 1, "", "1", "a", [[]], [least] * 9, (least,) * 9, [[least]], ((least,),)]
    for part in no_integers_of(least, most):
        wrong.extend([[part], (part,), [least] * 7 + [part], [least, part, most]])
    return wrong


def no_programs():
    wrong = [x for x in NO_INTEGERS if x != [[]]] + [[HALT] * 9, (HALT,), [tuple(HALT)], [HALT, None], [HALT, 0], [HALT, ()],
                                                     [[0] * 129], [HALT, [0] * 129], [[[0]]], [HALT] * 7 + [[[]]]]
    for part in NO_WORDS:
        wrong.extend([[[part]], [HALT, [0, part]], [[0] * 127 + [part]]])
    return wrong


def no_roots():
    """Wrong roots for a world with two programs, two pipes, one gate and a block."""
    wrong = [True, False, None, 0, 1, "", "a", [[]], [()], [0], ["pipe:0"], (0, "pipe:0", "r"), [None], [[0, "pipe:0", "r"]],
             [(0, "pipe:0")], [(0, "pipe:0", "r", 0)], [(0, "pipe:0", "r")] * 33, ((0, "pipe:0", "r"),) * 33]
    for pid in no_integers_of(0, 1):
        wrong.append([(pid, "pipe:0", "r")])
    for thing in NO_INTEGERS + ["pipe", "pipe:", "pipe:2", "pipe:00", "pipe:-1", "gate:1", "block:1", "pipes:0", "Pipe:0",
                                "pipe:0 ", " pipe:0", "/a", "pipe/0", ["pipe:0"], ("pipe:0",), "gate0"]:
        wrong.append([(0, thing, "r")])
    for marks in [x for x in NO_INTEGERS] + ["wr", "rr", "x", "gr", "R", ["r"], ("r",), 7, "rwgr", "r w"]:
        wrong.append([(1, "gate:0", marks)])
        wrong.append([(0, "pipe:0", "r"), (1, "gate:0", marks)])
    return wrong


class MakeTest(WardCase):
    def test_a_small_world(self):
        world = World([[]])
        self.same(([[]], 4, [3], 4, 32, [], [], 0, []), world.setup)
        self.same((1, "ready", (0,) * 5, [0] * 32, [], [0]),
                  (world.many, world.status(0), world.core(0), world.contents(0), world.handles(0), world.ready()))
        self.same(([], [], [(0, 3, 0, True, 0)], [(0, [None] * 4)], []),
                  (world.record(), world.log(), world.ages(), world.tables(), world.rights()))
        self.same([(("turn", 1), 0, 0, "halt")], world.run([("turn", 1)]))

    def test_a_great_world(self):
        things = [f"pipe:{k}" for k in range(8)] + [f"gate:{k}" for k in range(8)] + [f"block:{k}" for k in range(8)]
        roots = [(k % 8, thing, "rwg") for k, thing in enumerate(things)] + [(0, "pipe:0", "r")] * 8
        world = World([[0] * 96] * 8, pages=12, priorities=(0, 1, 2, 3, 4, 5, 6, 7), frames=32, slots=64, rooms=(16,) * 8,
                      gates=(8,) * 8, blocks=8, roots=tuple(roots))
        self.same(([[0] * 96] * 8, 12, list(range(8)), 32, 64, [16] * 8, [8] * 8, 8, roots), world.setup)
        self.same([(number, *root, None) for number, root in enumerate(roots)], world.rights())
        self.same([0, 8, 16, *range(24, 32)], world.handles(0))
        self.same([(pid, pid, 0, True, 0) for pid in range(8)], world.ages())
        self.same([[]] * 8 + [[]] * 8 + [[0] * 8] * 8,
                  [world.pipe(k) for k in range(8)] + [world.gate(k) for k in range(8)] + [world.block(k) for k in range(8)])
        World([[5] * 128], pages=16)

    def test_memories(self):
        world = World([[7, 8, 9], [], [1] * 9], pages=2, frames=2, slots=4)
        self.same([[7, 8, 9] + [0] * 13, [0] * 16, [1] * 9 + [0] * 7], [world.contents(pid) for pid in range(3)])
        # Pages behind the words of the program are blank, and the moves of admit are those of the words.
        self.same([(0, [("slot", 0), None]), (1, [None, None]), (2, [("frame", 1), ("frame", 0)])], world.tables())
        self.same([(("frame", 0), [(2, 1)]), (("frame", 1), [(2, 0)]), (("slot", 0), [(0, 0)])], world.certificate())

    def test_priorities(self):
        for given, right in (((), [3, 3, 3]), ([5], [5, 3, 3]), ((0, 7, 1), [0, 7, 1]), ([1, 2, 3, 4, 5, 6, 7, 0], [1, 2, 3])):
            world = World([HALT] * 3, priorities=given)
            self.same(right, world.setup[2])
            self.same([(pid, base, 0, True, 0) for pid, base in enumerate(right)], world.ages())

    def test_arguments_are_asked(self):
        wrong = {"programs": no_programs(), "pages": no_integers_of(1, 16), "priorities": no_numbers(0, 7),
                 "frames": no_integers_of(1, 32), "slots": no_integers_of(0, 64), "rooms": no_numbers(1, 16),
                 "gates": no_numbers(1, 8), "blocks": no_integers_of(0, 8), "roots": no_roots()}
        right = {**SETUP, "programs": [HALT, HALT], "slots": 1, "rooms": [1, 2], "gates": [1], "blocks": 1}
        World(**right)
        for at, name in enumerate(NAMES):
            for value in wrong[name]:
                with self.subTest(name=name, value=value):
                    self.raised(BadArgument, {"name": name}, World, **{**right, name: value})
            for later in NAMES[at + 1:]:
                both = {**right, name: wrong[name][-1], later: wrong[later][-1]}
                self.raised(BadArgument, {"name": name}, World, **both)
        for first, second in itertools.combinations(NAMES, 2):
            if first != "programs":
                both = {**right, first: wrong[first][0], second: wrong[second][0], "frames": wrong["frames"][0]}
                due = min(first, second, "frames", key=NAMES.index)
                self.raised(BadArgument, {"name": due}, World, **both)

    def test_programs_that_are_too_long(self):
        for pages in range(1, 17):
            World([[1] * 8 * pages], pages=pages)
            if pages < 16:
                for programs in ([[1] * (8 * pages + 1)], [HALT, [1] * 128]):
                    self.raised(BadArgument, {"name": "pages"}, World, programs, pages=pages)
        # What speaks of pages or programs is not due if these are wrong.
        self.raised(BadArgument, {"name": "programs"}, World, [[0] * 9, None], pages=1)
        self.raised(BadArgument, {"name": "pages"}, World, [[0] * 9], pages=1, priorities=None)

    def test_full(self):
        for many, pages, frames, slots in ((1, 16, 1, 15), (8, 12, 32, 64), (8, 1, 1, 7), (2, 4, 8, 0), (8, 4, 1, 31)):
            World([HALT] * many, pages=pages, frames=frames, slots=slots)
            less = {"frames": frames, "slots": slots - 1} if slots else {"frames": frames - 1, "slots": 0}
            self.raised(Full, {"what": "keeper"}, World, [HALT] * many, pages=pages, **less)
            # Every wrong argument goes ahead.
            self.raised(BadArgument, {"name": "roots"}, World, [HALT] * many, pages=pages, roots=[0], **less)
        self.raised(Full, {"what": "keeper"}, World, [[]] * 8, pages=16)

    def test_ways_to_hand_in(self):
        world = World(programs=[HALT, LOOP], roots=[(1, "pipe:0", "rw")] * 2, rooms=(3,))
        self.same([(0, 1, "pipe:0", "rw", None), (1, 1, "pipe:0", "rw", None)], world.rights())
        self.same([0, 1], world.handles(1))
        for setup in (world.setup, World([[]]).setup):
            self.same(setup, World.built(setup).setup)
            self.same(setup, World.built(setup=setup).setup)

    def test_lists_are_neither_kept_nor_handed_out(self):
        given = {"programs": [program("trap 1 ! jump 0"), asking((4, 0), (4, 0)), [0], asking((5, 0), (0,)), asking((5, 0))],
                 "priorities": [1], "rooms": [2], "gates": [1], "blocks": 1, "slots": 60,
                 "roots": [(0, "pipe:0", "rwg"), (1, "pipe:0", "r"), (3, "gate:0", "w"), (4, "gate:0", "w")]}
        world = World(**given)
        # A process that is ready, one that is waiting with an answer ahead of that, ended ones, and rows of each kind.
        world.run([("put", 0, 5), ("force", 0, 3), ("force", 1, 9), ("force", 2, 1), ("put", 0, 6), ("put", 0, 7), ("put", 0, 8)])
        world.run([("force", 3, 9), ("force", 4, 9), ("end", 0)])
        self.same(["ended", "ready", "halt", "ready", "waiting"], [world.status(pid) for pid in range(5)])
        before = all_seen(world)
        given["programs"][0].clear()
        for value in given.values():
            if isinstance(value, list):
                value.clear()
        events = [("turn", 1)]
        other = World.built(world.setup)
        other.run(events).clear()
        self.same([("turn", 1)], events)
        lists = [world.setup[0][0], world.setup[0], world.setup[2], world.setup[5], world.setup[6], world.setup[8],
                 world.record(), world.log(), world.ready(), world.pipe(0), world.gate(0), world.block(0), world.rights(),
                 world.ages(), world.tables()[0][1], world.tables(), world.certificate()[0][1], world.certificate(),
                 world.waits()[0][1], world.waits(), world.ring_of_now()]
        for pid in range(5):
            view = world.view(pid)
            lists.extend([world.contents(pid), world.handles(pid), view[1], view[2], view[3], view[7]])
        self.assertEqual([], world.ring_of_now())
        for told in lists:
            told.clear()
        self.same(before, all_seen(world))


class EventTest(WardCase):
    def test_the_example(self):
        roots = [(0, "pipe:0", "w"), (1, "pipe:0", "r")]
        world = World([[5120, 6151, 53251], [5120, 53252]], rooms=[2], roots=roots)
        self.same([(("turn", 5), 0, 3, "halt"), (("turn", 5), 1, 2, "halt")], world.run([("turn", 5), ("turn", 5)]))
        self.same((1, (4, 0, 0, 0, 0), (1, 7), "pipe:0"), world.log()[2])

    def test_turns_and_steps(self):
        world = World([LOOP, LOOP])
        for n in (1, 2, 19, 20):
            self.same((("turn", n), 0, n, "interrupt"), world.do(("turn", n)))
            self.same((("turn", n), 1, n, "interrupt"), world.do(event=("turn", n)))
        self.same((("force", 1, 7), 1, 7, "interrupt"), world.do(("force", 1, 7)))
        self.same([42, 49], [world.view(pid)[4] for pid in (0, 1)])
        # Nobody is picked by force: the ages stay.
        self.same([(0, 3, 3, True, 1), (1, 3, 3, True, 0)], world.ages())

    def test_outcomes(self):
        # A step that halts or faults is not counted; a trap is counted.
        for text, n, right in (
                ("halt", 1, (0, "halt")), ("set a 1 ! halt", 1, (1, "interrupt")), ("set a 1 ! halt", 2, (1, "halt")),
                ("word 1", 5, (0, "code")), ("jump 999", 5, (1, "fetch")), ("jump 999", 1, (1, "interrupt")),
                ("set a 999 ! load a a", 5, (1, "address")), ("set a 999 ! store a a", 5, (1, "address")),
                ("div a a", 5, (0, "divide")), ("trap 0 ! halt", 5, (1, "rest")), ("trap 1 ! halt", 5, (1, "halt")),
                ("trap 0", 1, (1, "rest")), ("trap 1", 1, (1, "interrupt")), ("set a 1 ! trap 0", 2, (2, "rest")),
                ("set b 0 ! trap 4 ! halt", 5, (2, "wait")), ("set b 0 ! trap 4", 2, (2, "wait")),
                ("set b 0 ! trap 4", 1, (1, "interrupt")), ("trap 13 ! trap 14 ! halt", 9, (2, "halt"))):
            for event in (("turn", n), ("force", 0, n)):
                world = World([program(text), LOOP], rooms=[1], priorities=[4], roots=[(0, "pipe:0", "r"), (1, "pipe:0", "w")])
                with self.subTest(text=text, event=event):
                    self.same((event, 0, *right), world.do(event))
        world = World([program("add a b ! jump 0")])
        self.same([(("turn", 20), 0, 20, "interrupt")], world.run([("turn", 20)]))

    def test_idle(self):
        world = World([HALT, asking((4, 0))], rooms=[1], roots=[(1, "pipe:0", "r"), (0, "pipe:0", "w")])
        self.same((("force", 1, 9), 1, 2, "wait"), world.do(("force", 1, 9)))
        events = [("force", 1, 1), ("force", 2, 1), ("end", 2), ("put", 1, 0), ("pull", 1), ("force", 7, 20), ("end", 7),
                  ("put", 7, 65535), ("pull", 7)]
        self.same([(event, None, 0, "idle") for event in events], world.run(events))
        # When process 0 ends, the pipe is closed for process 1, which is ready again.
        self.same([(("turn", 1), 0, 0, "halt"), (("turn", 9), 1, 0, "halt"), (("turn", 1), None, 0, "idle"),
                   (("force", 0, 1), None, 0, "idle"), (("end", 0), None, 0, "idle"), (("end", 1), None, 0, "idle")],
                  world.run([("turn", 1), ("turn", 9), ("turn", 1), ("force", 0, 1), ("end", 0), ("end", 1)]))
        self.same(([], []), (world.ready(), world.ages()))

    def test_put_and_pull(self):
        world = World([LOOP], rooms=[2, 1])
        events = [("pull", 0), ("put", 0, 65535), ("put", 0, 0), ("put", 0, 7), ("put", 1, 5), ("pull", 0), ("pull", 0),
                  ("pull", 0), ("pull", 1)]
        outcomes = ["empty", "put", "put", "full", "put", 65535, 0, "empty", 5]
        self.same([(event, None, 0, outcome) for event, outcome in zip(events, outcomes)], world.run(events))
        self.same([(None, (3, 0, 0, 65535, 0), (1, 0), "pipe:0"), (None, (3, 0, 0, 0, 0), (1, 0), "pipe:0"),
                   (None, (3, 0, 0, 5, 0), (1, 0), "pipe:1"), (None, (4, 0, 0, 0, 0), (1, 65535), "pipe:0"),
                   (None, (4, 0, 0, 0, 0), (1, 0), "pipe:0"), (None, (4, 0, 0, 0, 0), (1, 5), "pipe:1")], world.log())
        world.run([("put", 0, 1), ("put", 0, 2)])
        self.same([1, 2], world.pipe(0))

    def test_end(self):
        world = World([LOOP, LOOP], priorities=[5])
        self.same((("end", 0), 0, 0, "ended"), world.do(("end", 0)))
        self.same(("ended", [1], [(0, None, None, None)]), (world.status(0), world.ready(), world.log()))
        self.same((("turn", 1), 1, 1, "interrupt"), world.do(("turn", 1)))

    def test_wrong_events(self):
        world = World([LOOP], rooms=[1])
        world.do(("put", 0, 1))
        self.refused(world.do, {"event": ("turn", 1)}, {"event": NO_EVENTS}, lambda: all_seen(world))
        lists = [x for x in NO_INTEGERS if x != []] + [(("turn", 1),), ("turn", 1), [("turn", 1)] * 201, "turn"]
        for event in NO_EVENTS:
            lists.extend([[event], [("turn", 1), event], [event, ("turn", 1)]])
        self.refused(world.run, {"events": []}, {"events": lists}, lambda: all_seen(world))

    def test_run_and_record(self):
        world = World([LOOP])
        self.same([], world.run([]))
        self.assertEqual(200, len(world.run(events=[("turn", 1)] * 200)))
        last = world.do(("pull", 0))
        self.same([(("turn", 1), 0, 1, "interrupt")] * 200 + [last], world.record())

    def test_lent_priorities(self):
        world = World([asking((5, 0), (0,), (6, 0)), asking((5, 0)), LOOP], priorities=[1, 6, 2], gates=[1],
                      roots=[(0, "gate:0", "w"), (1, "gate:0", "w")])
        self.same([(0, 1, 0, True, 0), (1, 6, 0, True, 0), (2, 2, 0, True, 0)], world.ages())
        # Also behind an idle event.
        world.do(("pull", 0))
        self.same([1, 6, 2], [row[2] for row in world.ages()])
        world.run([("force", 0, 9), ("force", 1, 9)])
        self.same([(0, 1, 6, True, 0), (1, 6, 6, False, 0), (2, 2, 2, True, 0)], world.ages())
        self.same((("turn", 9), 0, 2, "halt"), world.do(("turn", 9))[:2] + world.record()[-1][2:])
        self.same([(1, 6, 6, True, 0), (2, 2, 2, True, 1)], world.ages())

    def test_the_bound_on_waiting(self):
        for bases in ([7, 7, 7, 7, 7, 7, 7, 0], [0] * 8, [7, 0, 3, 5, 1, 7, 0, 2]):
            world = World([LOOP] * 8, priorities=bases)
            waits, most = [0] * 8, [0] * 8
            for _ in range(300):
                picked = world.do(("turn", 1))[1]
                for pid in range(8):
                    waits[pid] = 0 if pid == picked else waits[pid] + 1
                    most[pid] = max(most[pid], waits[pid])
            for pid, base in enumerate(bases):
                self.assertLessEqual(most[pid], Ages.bound(base))
            self.assertGreater(max(most), 7 if bases != [0] * 8 else 6)


class QuestionTest(WardCase):
    def test_processes_that_never_were(self):
        world = World([LOOP, HALT])
        world.run([("turn", 1), ("turn", 1)])
        for question in (world.status, world.core, world.contents, world.handles, world.view):
            for pid in (2, 3, 7):
                self.raised(Unknown, {"what": pid}, question, pid)
            self.refused(question, {"pid": 0}, {"pid": no_integers_of(0, 7)})
            # An ended process answers.
            question(1)

    def test_an_ended_process(self):
        world = World([program("set a 5 ! set b 20 ! store a b ! halt")], rooms=[1], roots=[(0, "pipe:0", "r")])
        world.do(("turn", 20))
        contents = program("set a 5 ! set b 20 ! store a b ! halt") + [0] * 16 + [5] + [0] * 11
        self.same(("halt", (3, 5, 20, 0, 0), contents, [0], 1, []),
                  (world.status(0), world.core(0), world.contents(0), world.handles(0), world.many, world.ready()))
        self.same(([], [], [(0, 0, "pipe:0", "r", None)]), (world.tables(), world.certificate(), world.rights()))
        self.same(contents, world.view(0)[7])

    def test_things(self):
        world = World([HALT], rooms=[1, 2], gates=[1], blocks=3)
        for question, many in ((world.pipe, 2), (world.gate, 1), (world.block, 3)):
            for k in range(many):
                question(k=k)
            self.refused(question, {"k": 0}, {"k": no_integers_of(0, many - 1)})
        world = World([HALT])
        for question in (world.pipe, world.gate, world.block):
            self.refused(question, {"k": 0}, {"k": [0] + NO_INTEGERS})

    def test_questions_change_nothing(self):
        world = World([asking((4, 0)), LOOP], rooms=[1], frames=1, slots=7, roots=[(0, "pipe:0", "r"), (1, "pipe:0", "w")])
        world.run([("turn", 5), ("turn", 5)])
        self.same(all_seen(world), all_seen(world))


class WaitsTest(WardCase):
    def test_gates_and_pipes(self):
        programs = [asking((5, 0)), asking((5, 0), (5, 0)), asking((4, 1)), asking(*[(3, 1, 7)] * 2), LOOP]
        roots = [(0, "gate:0", "w"), (1, "gate:0", "w"), (2, "gate:0", "w"), (2, "pipe:0", "r"), (3, "gate:0", "w"),
                 (3, "pipe:1", "w"), (4, "pipe:0", "rw"), (4, "pipe:1", "r"), (0, "pipe:0", "w"), (1, "pipe:0", "r")]
        world = World(programs, rooms=[1, 1], gates=[1], roots=roots)
        self.same([], world.waits())
        world.run([("force", 1, 9)])
        self.same("halt", world.status(1))
        world = World(programs[:1] + [asking((5, 0), (0,))] + programs[2:], rooms=[1, 1], gates=[1], roots=roots)
        world.run([("force", 1, 9), ("force", 0, 9), ("force", 2, 9), ("force", 3, 9)])
        self.same([(0, [1]), (2, [0, 4]), (3, [4])], world.waits())
        self.same([], world.ring_of_now())

    def test_rights_above(self):
        # Process 0 hands its right on to 1, which hands it on to 2; 3 has "w" by itself.
        programs = [asking((9, 0, 1, 7)), asking((9, 0, 2, 5)), asking((4, 0)), LOOP, LOOP]
        roots = [(0, "pipe:0", "rwg"), (3, "pipe:0", "w"), (4, "pipe:0", "r")]
        world = World([words[:-1] + program("jump 4") for words in programs], rooms=[1], roots=roots)
        world.run([("force", 0, 9), ("force", 1, 9), ("force", 2, 9)])
        self.same([(0, 0, "pipe:0", "rwg", None), (1, 3, "pipe:0", "w", None), (2, 4, "pipe:0", "r", None),
                   (3, 1, "pipe:0", "rwg", 0), (4, 2, "pipe:0", "rg", 3)], world.rights())
        self.same([(2, [0, 1, 3])], world.waits())
        world.do(("end", 1))
        self.same([(2, [0, 3])], world.waits())
        # It is the holders of the rights above that count, not their numbers; they count also without a mark that helps.
        world = World([asking((4, 0)), asking((9, 0, 4, 5))[:-1] + LOOP, LOOP, LOOP, asking((9, 0, 0, 4))[:-1] + LOOP],
                      rooms=[1], roots=[(3, "pipe:0", "r"), (1, "pipe:0", "rg"), (2, "pipe:0", "w")])
        world.run([("force", 1, 5), ("force", 4, 5), ("force", 0, 9)])
        self.same([(3, 4, "pipe:0", "rg", 1), (4, 0, "pipe:0", "r", 3)], world.rights()[3:])
        self.same([(0, [1, 2, 4])], world.waits())
        # For a gate they count, too.
        world = World([asking((9, 0, 1, 7), (5, 0), (0,)), asking((5, 0)), asking((5, 0), (0,))], gates=[1],
                      roots=[(0, "gate:0", "rwg"), (2, "gate:0", "w")])
        world.run([("force", 0, 4), ("force", 2, 9), ("force", 1, 9)])
        self.same([(1, [0, 2])], world.waits())

    def ring_of_gates(self):
        both = [[(5, first), (0,), (5, 1 - first)] for first in (0, 1)]
        roots = [(pid, f"gate:{k}", "w") for pid in (0, 1) for k in (0, 1)]
        world = World([asking(*both[0]), asking(*both[1]), LOOP], gates=[1, 1], roots=roots)
        world.run([("force", 0, 9), ("force", 1, 9), ("force", 0, 9), ("force", 1, 9)])
        return world

    def ring_of_pipes(self):
        roots = [(0, "pipe:0", "r"), (1, "pipe:0", "w"), (1, "pipe:1", "r"), (0, "pipe:1", "w")]
        world = World([asking((4, 0)), asking((4, 1)), LOOP], rooms=[1, 1], roots=roots)
        world.run([("force", 0, 9), ("force", 1, 9)])
        return world

    def test_rings(self):
        for make in (self.ring_of_gates, self.ring_of_pipes):
            world = make()
            self.same(([(0, [1]), (1, [0])], [0, 1]), (world.waits(), world.ring_of_now()))
            for event in [("turn", 5), ("force", 0, 9), ("force", 1, 9), ("force", 2, 5), ("turn", 20)] * 5:
                world.do(event)
                self.assertIs(True, is_ring([0, 1], world.waits()))
            world = make()
            world.do(("end", 0))
            self.same(("ready", [], []), (world.status(1), world.waits(), world.ring_of_now()))
        world = self.ring_of_pipes()
        world.do(("put", 0, 5))
        self.same([], world.ring_of_now())
        self.same(["ready", "waiting"], [world.status(pid) for pid in (0, 1)])

    def test_nobody_is_ready(self):
        world = World([asking((4, 0)), asking((4, 0))], rooms=[1], roots=[(0, "pipe:0", "rw"), (1, "pipe:0", "rw")])
        world.run([("turn", 9), ("turn", 9)])
        self.same(([(0, [1]), (1, [0])], [0, 1], (("turn", 1), None, 0, "idle")),
                  (world.waits(), world.ring_of_now(), world.do(("turn", 1))))


if __name__ == "__main__":
    unittest.main()
