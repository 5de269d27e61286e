"""step and run_alone, [24] to [26]."""

import random
import unittest

from tests.cases import WardCase
from tests.values import NO_INTEGERS, NO_WORDS, no_integers_of, no_words_of
from wardwork.assembler import assemble
from wardwork.errors import BadArgument, Full, WardError
from wardwork.frames import Frames
from wardwork.instructions import code_of, instruction_of
from wardwork.machine import run_alone, step
from wardwork.source import read_source
from wardwork.spaces import Plain, Space

START = (0, 0, 0, 0, 0)
NO_CORES = NO_INTEGERS + [0, "00000", [0] * 5, (0,) * 4, (0,) * 6, ((0,) * 5,)] + [
    (0,) * at + (part,) + (0,) * (4 - at) for at in range(5) for part in NO_WORDS]
ARITHMETIC = {
    "copy": lambda r, s: s, "add": lambda r, s: r + s, "sub": lambda r, s: r - s, "mul": lambda r, s: r * s,
    "div": lambda r, s: r // s, "less": lambda r, s: int(r < s), "same": lambda r, s: int(r == s),
}


class Watched:
    """A memory that notes each read and each write."""

    def __init__(self, memory):
        self.memory = memory
        self.notes = []

    @property
    def pages(self):
        return self.memory.pages

    def read(self, address):
        self.notes.append(("read", address))
        return self.memory.read(address)

    def write(self, address, word):
        self.notes.append(("write", address, word))
        return self.memory.write(address, word)


def plain_with(words, pages=2):
    return Plain(pages, words)


def space_with(words, pages=2):
    """A Space with these words, whose pages are shared with another one, so that writes copy."""
    space = Space(Frames(2 * pages), pages=pages)
    for address, word in enumerate(words):
        space.write(address, word)
    space.fork()
    return space


def program(text):
    return assemble(read_source(text))[0]


class StepTest(WardCase):
    def steps(self, body, core, after, event=None, words=(), changed=None):
        """Asks for one step of the body, which stands at the pc, over every sort of memory."""
        told = list(words) + [0] * (16 - len(words))
        told[core[0]] = body if isinstance(body, int) else code_of(body)
        wanted = {**dict(enumerate(told)), **(changed or {})}
        for make in (plain_with, space_with):
            with self.subTest(body=body, core=core, make=make.__name__):
                memory = make(told)
                self.same((after, event), step(core, memory))
                self.assertEqual([wanted[address] for address in range(16)], memory.contents())

    def test_set(self):
        self.steps(("set", "a", 1023), (0, 1, 2, 3, 4), (1, 1023, 2, 3, 4))
        self.steps(("set", "b", 0), (15, 1, 2, 3, 4), (16, 1, 0, 3, 4))
        self.steps(("set", "c", 7), (3, 1, 2, 3, 4), (4, 1, 2, 7, 4))
        self.steps(("set", "d", 7), (3, 1, 2, 3, 4), (4, 1, 2, 3, 7))

    def test_arithmetic(self):
        samples = [(0, 0), (0, 1), (1, 0), (1, 1), (5, 7), (7, 5), (65535, 1), (1, 65535), (65535, 65535), (300, 300),
                   (256, 256), (32768, 2), (0, 65535)]
        for name, effect in ARITHMETIC.items():
            for first, second in samples:
                if name == "div" and second == 0:
                    continue
                result = effect(first, second) % 65536
                self.steps((name, "b", "d"), (2, 9, first, 9, second), (3, 9, result, 9, second))
                self.steps((name, "c", "a"), (0, second, 9, first, 9), (1, second, 9, result, 9))
                if first == second:
                    self.steps((name, "c", "c"), (0, 9, 9, first, 9), (1, 9, 9, result, 9))

    def test_results_are_words(self):
        self.steps(("add", "a", "b"), (0, 65535, 65535, 0, 0), (1, 65534, 65535, 0, 0))
        self.steps(("sub", "a", "b"), (0, 0, 65535, 0, 0), (1, 1, 65535, 0, 0))
        self.steps(("mul", "a", "b"), (0, 65535, 65535, 0, 0), (1, 1, 65535, 0, 0))
        self.steps(("less", "a", "b"), (0, 1, 65535, 0, 0), (1, 1, 65535, 0, 0))

    def test_load(self):
        self.steps(("load", "a", "b"), (0, 1, 15, 3, 4), (1, 65535, 15, 3, 4), words=[0] * 15 + [65535])
        self.steps(("load", "d", "d"), (1, 1, 2, 3, 0), (2, 1, 2, 3, 77), words=[77])
        self.steps(("load", "c", "a"), (4, 4, 2, 3, 0), (5, 4, 2, code_of(("load", "c", "a")), 0))

    def test_store(self):
        self.steps(("store", "a", "b"), (0, 65535, 15, 3, 4), (1, 65535, 15, 3, 4), changed={15: 65535})
        self.steps(("store", "d", "d"), (1, 1, 2, 3, 9), (2, 1, 2, 3, 9), changed={9: 9})
        self.steps(("store", "c", "a"), (4, 4, 2, 3, 0), (5, 4, 2, 3, 0), changed={4: 3})

    def test_jumps(self):
        self.steps(("jump", 0), (5, 1, 2, 3, 4), (0, 1, 2, 3, 4))
        self.steps(("jump", 1023), (0, 1, 2, 3, 4), (1023, 1, 2, 3, 4))
        self.steps(("zero", "b", 9), (5, 1, 0, 3, 4), (9, 1, 0, 3, 4))
        self.steps(("zero", "b", 9), (5, 0, 1, 0, 0), (6, 0, 1, 0, 0))
        self.steps(("zero", "d", 0), (15, 1, 1, 1, 65535), (16, 1, 1, 1, 65535))
        self.steps(("link", "c", 12), (5, 1, 2, 3, 4), (12, 1, 2, 6, 4))
        self.steps(("link", "a", 1023), (15, 1, 2, 3, 4), (1023, 16, 2, 3, 4))
        self.steps(("back", "a"), (5, 65535, 2, 3, 4), (65535, 65535, 2, 3, 4))
        self.steps(("back", "d"), (5, 1, 2, 3, 0), (0, 1, 2, 3, 0))

    def test_trap(self):
        self.steps(("trap", 0), (0, 1, 2, 3, 4), (1, 1, 2, 3, 4), ("trap", 0))
        self.steps(("trap", 1023), (15, 1, 2, 3, 4), (16, 1, 2, 3, 4), ("trap", 1023))

    def test_halt_and_faults_change_nothing(self):
        for core in ((0, 1, 2, 3, 4), (15, 65535, 16, 0, 16)):
            self.steps(("halt",), core, core, ("halt",))
            for word in (1, 4095, 65535, 49152 - 1):
                self.assertIsNone(instruction_of(word))
                self.steps(word, core, core, ("fault", "code"))
        core = (15, 65535, 16, 0, 16)
        for body in (("load", "c", "b"), ("store", "c", "b"), ("load", "a", "a"), ("store", "a", "a"),
                     ("store", "a", "d"), ("load", "c", "d")):
            self.steps(body, core, core, ("fault", "address"))
        for body in (("div", "a", "c"), ("div", "c", "c"), ("div", "d", "c")):
            self.steps(body, core, core, ("fault", "divide"))

    def test_a_pc_that_is_no_address(self):
        for pages in (1, 2, 16):
            for make in (plain_with, space_with):
                memory = make([7] * 8, pages)
                for pc in (8 * pages, 8 * pages + 1, 65535):
                    core = (pc, 1, 2, 3, 4)
                    self.same((core, ("fault", "fetch")), step(core, memory))
                last = (8 * pages - 1, 1, 2, 3, 4)
                self.assertNotEqual(("fault", "fetch"), step(last, memory)[1])
                self.assertEqual([7] * 8 + [0] * (8 * pages - 8), memory.contents())

    def test_arguments_by_name(self):
        self.same((START, ("halt",)), step(core=START, memory=Plain(1)))

    def test_the_core_is_asked(self):
        memory = Plain(1, [code_of(("set", "a", 5))])
        self.refused(step, {"core": START, "memory": memory}, {"core": NO_CORES}, memory.contents)

    def test_reads_and_writes_of_a_step(self):
        chance = random.Random(24)
        for number in range(2000):
            words = [chance.choice([chance.randrange(65536), code_of(("halt",)), code_of(("load", "a", "b"))])
                     for _ in range(16)]
            core = (chance.randrange(18), *[chance.choice([0, 5, 15, 16, 65535]) for _ in range(4)])
            memory = Watched(space_with(words) if number % 2 else Plain(2, words))
            step(core, memory)
            self.assertEqual(self.wanted_notes(core, words), memory.notes)

    def wanted_notes(self, core, words):
        if core[0] > 15:
            return []
        notes = [("read", core[0])]
        instruction = instruction_of(words[core[0]])
        if instruction is not None and instruction[0] in ("load", "store"):
            first, address = [core["abcd".index(letter) + 1] for letter in instruction[1:]]
            if address < 16:
                notes.append(("read", address) if instruction[0] == "load" else ("write", address, first))
        return notes

    def test_a_write_that_raises_full_changes_nothing(self):
        frames = Frames(1)
        space = Space(frames, pages=2)
        space.write(0, code_of(("store", "a", "b")))
        core = (0, 7, 8, 0, 0)
        self.raised(Full, {"what": "frame"}, step, core, space)
        child = space.fork()
        self.raised(Full, {"what": "frame"}, step, (0, 7, 1, 0, 0), child)
        self.raised(Full, {"what": "frame"}, step, (0, 7, 1, 0, 0), space)
        self.assertEqual([[0, None], [0, None]], [space.table(), child.table()])
        self.assertEqual([code_of(("store", "a", "b"))] + [0] * 15, space.contents())
        self.assertEqual((0, 7, 8, 0, 0), core)
        child.close()
        self.same(((1, 7, 1, 0, 0), None), step((0, 7, 1, 0, 0), space))
        self.assertEqual(7, space.read(1))


class RunTest(WardCase):
    def test_sample(self):
        contents = [4101, 53251, 0, 0, 0, 0, 0, 0]
        told = ("halt", 2, (2, 1, 9, 0, 0), contents, [(3, 5, 0, 0, 0)])
        self.same(told, run_alone(START, contents, [(1, 9)]))
        self.same(told, run_alone(core=START, contents=contents, answers=[(1, 9)], limit=3))

    def run_of(self, text, answers=(), core=START, limit=200):
        words = program(text)
        contents = words + [0] * (-len(words) % 8)
        return run_alone(core, contents, list(answers), limit=limit)

    def test_endings(self):
        self.assertEqual(("halt", 0, START), self.run_of("halt")[:3])
        self.assertEqual(("halt", 1, (1, 5, 0, 0, 0)), self.run_of("set a 5")[:3])
        self.assertEqual(("fetch", 1, (8, 0, 0, 0, 0)), self.run_of("jump 8")[:3])
        self.assertEqual(("fetch", 0, (65535, 0, 0, 0, 0)), self.run_of("halt", core=(65535, 0, 0, 0, 0))[:3])
        self.assertEqual(("code", 0, START), self.run_of("word 1")[:3])
        self.assertEqual(("address", 1, (1, 8, 0, 0, 0)), self.run_of("set a 8\nload b a")[:3])
        self.assertEqual(("address", 0, (0, 8, 0, 0, 0)), self.run_of("store a a", core=(0, 8, 0, 0, 0))[:3])
        self.assertEqual(("divide", 1, (1, 5, 0, 0, 0)), self.run_of("set a 5\ndiv a b")[:3])
        self.assertEqual(("asks", 1, (1, 0, 0, 0, 0)), self.run_of("trap 9")[:3])
        self.assertEqual(("limit", 200, START), self.run_of("jump 0")[:3])

    def test_requests_and_answers(self):
        text = "set a 5\nset d 6\ntrap 1023\ncopy c a\ntrap 0\ntrap 7"
        ending, steps, core, _, asked = self.run_of(text, [(65535, 9), (0, 1)])
        self.same(("asks", 6, (6, 0, 1, 65535, 6)), (ending, steps, core))
        self.same([(1023, 5, 0, 0, 6), (0, 65535, 9, 65535, 6), (7, 0, 1, 65535, 6)], asked)
        ending, steps, core, _, asked = self.run_of(text, [(65535, 9), (0, 1), (3, 4), (5, 6), (7, 8)])
        self.same(("halt", 6, (6, 3, 4, 65535, 6), 3), (ending, steps, core, len(asked)))

    def test_limits(self):
        self.assertEqual(("limit", 0, START, []), tuple(self.run_of("halt", limit=0)[k] for k in (0, 1, 2, 4)))
        self.assertEqual(("limit", 0), self.run_of("word 1", limit=0)[:2])
        self.assertEqual(("limit", 0), self.run_of("halt", core=(99, 0, 0, 0, 0), limit=0)[:2])
        self.assertEqual(("limit", 2001, START), self.run_of("jump 0", limit=2001)[:3])
        self.assertEqual(("limit", 1, (1, 5, 0, 0, 0)), self.run_of("set a 5\nhalt", limit=1)[:3])
        self.assertEqual(("halt", 1, (1, 5, 0, 0, 0)), self.run_of("set a 5\nhalt", limit=2)[:3])
        # The limit is tested ahead of a step only, so the last trap may end with "asks".
        self.assertEqual(("asks", 1, (1, 0, 0, 0, 0)), self.run_of("trap 3", limit=1)[:3])
        self.assertEqual(("limit", 1, (1, 4, 2, 0, 0)), self.run_of("trap 3", [(4, 2)], limit=1)[:3])
        self.assertEqual(("asks", 2), self.run_of("trap 3\ntrap 4", [(4, 2)], limit=2)[:2])

    def test_contents_at_the_end(self):
        words = program("set a 12\nset b 7\nstore b a\nload c a\nstore c d")
        contents = words + [9] * (16 - len(words))
        told = run_alone(START, contents, [])
        self.assertEqual([7] + contents[1:12] + [7] + contents[13:], told[3])
        self.assertEqual("code", told[0])

    def test_lists_are_neither_kept_nor_changed(self):
        words = program("set a 7\nstore a a\ntrap 1")
        contents = words + [0] * 5
        answers = [(1, 2)]
        told = run_alone(START, contents, answers)
        self.assertEqual(words + [0] * 5, contents)
        self.assertEqual([(1, 2)], answers)
        told[3][0] = 99
        told[4].clear()
        self.assertEqual(words + [0] * 4 + [7], run_alone(START, contents, answers)[3])
        untouched = run_alone(START, contents, answers, limit=0)[3]
        untouched[0] = 99
        self.assertEqual(words + [0] * 5, contents)

    def test_arguments_are_asked(self):
        for limit in (0, 200):
            right = {"core": START, "contents": [0] * 8, "answers": [], "limit": limit}
            wrong_contents = [words for words in no_words_of(8, 128)] + [[0] * many for many in (9, 15, 20, 127, 136)]
            wrong = {"core": NO_CORES, "contents": wrong_contents, "limit": no_integers_of(0, 2001)}
            self.refused(run_alone, right, wrong)
        for pages in range(1, 17):
            self.assertEqual("limit", run_alone(START, [45056] * (8 * pages), [])[0])
            self.raised(BadArgument, {"name": "contents"}, run_alone, START, (0,) * (8 * pages), [])


class ModelTest(WardCase):
    def random_run(self, chance):
        names = list(ARITHMETIC) + ["load", "store"]
        words = []
        for _ in range(chance.choice([8, 16, 40])):
            letters = [chance.choice("abcd") for _ in range(2)]
            body = chance.choice([(chance.choice(names), *letters), ("set", letters[0], chance.randrange(50)),
                                  ("trap", chance.randrange(14)), ("jump", chance.randrange(40)), ("back", letters[0]),
                                  ("zero", letters[1], chance.randrange(40)), ("link", "d", chance.randrange(40))])
            words.append(chance.randrange(65536) if chance.randrange(40) == 0 else code_of(body))
        core = (chance.randrange(8), *[chance.choice([0, 1, 7, 33, 65535]) for _ in range(4)])
        answers = [(chance.randrange(3), chance.randrange(65536)) for _ in range(chance.randrange(30))]
        return core, words, answers

    def test_runs_agree_with_single_steps(self):
        chance = random.Random(26)
        for _ in range(300):
            core, words, answers = self.random_run(chance)
            limit = chance.choice([0, 1, 5, 60, 200])
            self.same(self.by_steps(core, words, answers, limit), run_alone(core, words, answers, limit=limit))

    def by_steps(self, core, words, answers, limit):
        memory = space_with(words, len(words) // 8)
        asked, left, steps = [], list(answers), 0
        while True:
            if steps == limit:
                return ("limit", steps, core, memory.contents(), asked)
            core, event = step(core, memory)
            if event == ("halt",):
                return ("halt", steps, core, memory.contents(), asked)
            if event is not None and event[0] == "fault":
                return (event[1], steps, core, memory.contents(), asked)
            steps += 1
            if event is not None:
                asked.append((event[1], *core[1:]))
                if not left:
                    return ("asks", steps, core, memory.contents(), asked)
                core = (core[0], *left.pop(0), core[3], core[4])

    def test_a_run_that_is_stopped_and_taken_up_again(self):
        chance = random.Random(27)
        for _ in range(300):
            core, words, answers = self.random_run(chance)
            whole = run_alone(core, words, answers, limit=150)
            cut = chance.randrange(whole[1] + 1)
            ending, steps, middle, contents, asked = run_alone(core, words, answers, limit=cut)
            if ending == "limit":
                rest = run_alone(middle, contents, answers[len(asked):], limit=150 - steps)
                both = (rest[0], steps + rest[1], rest[2], rest[3], asked + rest[4])
                self.same(whole, both)
            else:
                self.assertEqual(("asks", whole[1]), (ending, steps))

    def test_every_step_answers_every_word(self):
        for word in range(0, 65536, 7):
            memory = Plain(1, [word])
            for core in (START, (0, 65535, 8, 7, 1)):
                try:
                    after, event = step(core, memory)
                except WardError:
                    self.fail(f"an error for the word {word}")
                self.assertEqual(5, len(after))
                self.assertTrue(all(0 <= part <= 65535 for part in after))
                self.assertIn(event, [None, ("halt",), ("fault", "code"), ("fault", "address"), ("fault", "divide"),
                                      ("trap", word % 1024)])


if __name__ == "__main__":
    unittest.main()
