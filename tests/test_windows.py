"""Window, [35], with [10], [24] and [26] over it."""

import random
import unittest

from tests.cases import WardCase
from tests.keepers import seen
from tests.values import NO_INTEGERS, NO_WORDS, no_integers_of
from wardwork.assembler import assemble
from wardwork.errors import Unknown
from wardwork.keeper import Keeper, Window
from wardwork.machine import run_alone, step
from wardwork.source import read_source
from wardwork.spaces import Plain

NO_PIDS = no_integers_of(0, 7)
START = (0, 0, 0, 0, 0)


def program(text):
    return assemble(read_source(text))[0]


class WindowTest(WardCase):
    def test_it_is_the_memory_of_its_owner(self):
        keeper = Keeper(2, 8)
        keeper.admit(3, 2, [1, 2, 3])
        keeper.admit(0, 5)
        window = Window(keeper, 3)
        self.same(2, window.pages)
        self.same([1, 2, 3] + [0] * 13, window.contents())
        self.assertIsNone(window.write(15, 65535))
        self.same(65535, keeper.read(3, 15))
        keeper.write(3, 0, 9)
        self.same(9, window.read(0))
        self.assertIsNone(window.write(address=1, word=8))
        self.same(8, window.read(address=1))
        self.same([9, 8, 3] + [0] * 12 + [65535], window.contents())
        self.same([0] * 40, Window(keeper=keeper, owner=0).contents())
        self.same(5, Window(keeper, 0).pages)

    def test_two_windows_of_one_owner_are_one_memory(self):
        keeper = Keeper(1, 3)
        keeper.admit(0, 2)
        first, second = Window(keeper, 0), Window(keeper, 0)
        first.write(3, 7)
        self.assertEqual(7, second.read(3))
        second.write(9, 8)
        self.assertEqual(first.contents(), second.contents())

    def test_its_reads_and_writes_touch_and_move(self):
        keeper = Keeper(2, 2)
        for owner in range(3):
            keeper.admit(owner, 1, [owner] if owner < 2 else [])
        windows = [Window(keeper, owner) for owner in range(3)]
        self.assertEqual(0, windows[0].read(0))
        windows[2].write(0, 5)
        self.assertEqual([(0, [("frame", 0)]), (1, [("slot", 0)]), (2, [("frame", 1)])], keeper.tables())
        before = seen(keeper)
        for window in windows:
            self.assertEqual((1, 8), (window.pages, len(window.contents())))
        self.assertEqual(before, seen(keeper))
        self.assertEqual(1, windows[1].read(0))
        self.assertEqual((1, 2), keeper.moves)

    def test_an_owner_that_comes_again(self):
        keeper = Keeper(4, 8)
        keeper.admit(0, 2, [1])
        keeper.admit(1, 3, [2])
        window = Window(keeper, 0)
        keeper.dismiss(0)
        self.all_unknown(keeper, window)
        keeper.admit(0, 4, [3])
        self.assertEqual((4, 3, 0), (window.pages, window.read(0), window.read(31)))
        keeper.dismiss(0)
        keeper.fork(1, 0)
        self.assertEqual((3, 2), (window.pages, window.read(0)))
        window.write(0, 5)
        self.assertEqual((5, 2), (keeper.read(0, 0), keeper.read(1, 0)))

    def all_unknown(self, keeper, window):
        before = seen(keeper)
        self.raised(Unknown, {"what": 0}, window.contents)
        self.raised(Unknown, {"what": 0}, lambda: window.pages)
        for address in [0, 15, 16, -1] + NO_INTEGERS:
            self.raised(Unknown, {"what": 0}, window.read, address)
            self.raised(Unknown, {"what": 0}, window.write, address, 5)
            self.refused(window.write, {"address": address, "word": 5}, {"word": NO_WORDS})
        self.assertEqual(before, seen(keeper))

    def test_the_constructor(self):
        keeper = Keeper(1, 1)
        keeper.admit(1, 2)
        for owner in (0, 2, 7):
            self.raised(Unknown, {"what": owner}, Window, keeper, owner)
        self.refused(Window, {"keeper": keeper, "owner": 1}, {"owner": NO_PIDS}, lambda: seen(keeper))
        self.refused(Window, {"keeper": Keeper(1, 1), "owner": 1}, {"owner": NO_PIDS})

    def test_arguments_are_asked(self):
        keeper = Keeper(1, 3)
        keeper.admit(0, 2, [1])
        window = Window(keeper, 0)
        wrong = {"address": no_integers_of(0, 15), "word": NO_WORDS}
        self.refused(window.read, {"address": 0}, {"address": wrong["address"]}, lambda: seen(keeper))
        self.refused(window.write, {"address": 15, "word": 0}, wrong, lambda: seen(keeper))

    def test_lists_are_not_handed_out(self):
        keeper = Keeper(1, 3)
        keeper.admit(0, 2, [1])
        window = Window(keeper, 0)
        window.contents().clear()
        self.assertEqual([1] + [0] * 15, window.contents())


class MachineTest(WardCase):
    def test_steps_over_a_window_and_a_plain(self):
        """Random words as programs: a window answers as a Plain, whatever others do in the keeper."""
        for seed in range(40):
            chance = random.Random(seed)
            words = [chance.choice([chance.randrange(65536), 16384 + chance.randrange(4) * 1025,
                                    4096 + chance.randrange(4) * 1024 + chance.randrange(24),
                                    20480 + chance.randrange(4) * 1025]) for _ in range(24)]
            keeper = Keeper(chance.randrange(1, 4), 12)
            keeper.admit(0, 3, words)
            keeper.fork(0, 1)
            keeper.admit(2, 3)
            plain, windows = Plain(3, words), [Window(keeper, 0), Window(keeper, 1)]
            cores = [START] * 3
            for _ in range(60):
                told = [step(core, memory) for core, memory in zip(cores, [plain, *windows])]
                keeper.write(2, chance.randrange(24), 1)
                self.same(told[0], told[1])
                self.same(told[0], told[2])
                cores = [core for core, _ in told]
                self.same(plain.contents(), windows[0].contents())
                self.same(plain.contents(), windows[1].contents())

    def test_a_run_over_a_window_is_the_run_alone(self):
        words = program("set a 20\nset b 9\ngo: store b a\nload c a\nadd a b\nset d 5\nsub d c\nzero d end\njump go\nend:")
        keeper = Keeper(1, 7)
        keeper.admit(0, 4, words)
        keeper.fork(0, 1)
        for owner in (0, 1):
            window = Window(keeper, owner)
            core, event, steps = START, None, 0
            contents = window.contents()
            while event is None:
                core, event = step(core, window)
                steps += event is None
            self.same(run_alone(START, contents, []), (event[-1], steps, core, window.contents(), []))

    def test_which_words_a_step_touches(self):
        """A step reads the word at pc once, also with a halt, a fault and a trap; a load reads one word more."""
        def moved(text, extra=0):
            keeper = Keeper(1, 3)
            keeper.admit(0, 2, program(text))
            keeper.write(0, 8, 7)
            self.assertEqual([("slot", 0), ("frame", 0)], keeper.table(0))
            step((0, 0, 8 + extra, 0, 0), Window(keeper, 0))
            return (keeper.moves, keeper.table(0)[0])

        for text in ("halt", "word 65535", "trap 3", "div a a", "set a 1"):
            self.assertEqual(((1, 2), ("frame", 0)), moved(text), text)
        self.assertEqual(((2, 3), ("slot", 0)), moved("load a b"))
        self.assertEqual(((2, 3), ("slot", 0)), moved("store a b"))
        self.assertEqual(((1, 2), ("frame", 0)), moved("load a b", 8))
        keeper = Keeper(1, 3)
        keeper.admit(0, 2, [1] * 9)
        self.assertEqual(("fault", "fetch"), step((16, 0, 0, 0, 0), Window(keeper, 0))[1])
        self.assertEqual((0, 1), keeper.moves)

    def test_a_program_reads_what_it_writes(self):
        """A program that writes over its own next instruction, over a page that is shared."""
        words = program("load a b\nstore a c\nset a 1\nhalt")
        keeper = Keeper(1, 3)
        keeper.admit(0, 2, words + [0] * 5 + [4099])
        keeper.fork(0, 1)
        core = (0, 0, 9, 2, 0)
        for _ in range(3):
            core, event = step(core, Window(keeper, 1))
        self.same(((3, 3, 9, 2, 0), None), (core, event))
        self.same(words, keeper.contents(0)[:4])


if __name__ == "__main__":
    unittest.main()
