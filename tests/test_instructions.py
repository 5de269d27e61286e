"""code_of and instruction_of, [15] and [16]."""

import unittest

from tests.cases import WardCase
from tests.values import NO_INTEGERS, NO_WORDS
from wardwork.errors import BadArgument
from wardwork.instructions import code_of, instruction_of

REGISTERS = "abcd"
# The table of [15], written once more: names with the sorts of their operands, in the order of the numbers.
WITH_N = {"set": 1, "jump": 11, "zero": 12, "trap": 13, "link": 14}
WITH_TWO = {"copy": 2, "load": 3, "store": 4, "add": 5, "sub": 6, "mul": 7, "div": 8, "less": 9, "same": 10}


def all_codes():
    """A dict of every instruction with its code."""
    codes = {("halt",): 0}
    for first, letter in enumerate(REGISTERS):
        codes[("back", letter)] = 15 * 4096 + 1024 * first
        for name, number in WITH_TWO.items():
            for last, other in enumerate(REGISTERS):
                codes[(name, letter, other)] = 4096 * number + 1024 * first + last
        for name in ("set", "zero", "link"):
            for n in range(1024):
                codes[(name, letter, n)] = 4096 * WITH_N[name] + 1024 * first + n
    for name in ("jump", "trap"):
        for n in range(1024):
            codes[(name, n)] = 4096 * WITH_N[name] + n
    return codes


def no_instructions():
    """Plain values that are no instruction."""
    wrong = NO_INTEGERS + ["halt", "set a 5", ["halt"], ["set", "a", 5], ("halt", 0), ("halt", "a"), ("halt", None),
                           (), (None,), (0,), ("",), ("Halt",), ("word", 5), ("word",), (("halt",),), ([],),
                           (True,), (["set"], "a", 5), (("set",), "a", 5), ("jump",), ("set",), ("back",)]
    numbers = [True, False, None, -1, 1024, 65536, "", "5", "a", "go", [5], (5,)]
    letters = [True, False, None, 0, 1, "", "e", "A", "ab", "abcd", "bc", ["a"], ("a",)]
    for name in WITH_N:
        head = (name,) if name in ("jump", "trap") else (name, "a")
        wrong.extend([head, head + (5, 5), [*head, 5], head + ("a",)])
        wrong.extend([head + (n,) for n in numbers])
    for name in ("set", "zero", "link"):
        wrong.extend([(name, letter, 5) for letter in letters] + [(name, 5), (name, 5, "a")])
    for name in WITH_TWO:
        wrong.extend([(name, letter, "a") for letter in letters] + [(name, "a", letter) for letter in letters])
        wrong.extend([(name,), (name, "a"), (name, "a", "a", "a"), [name, "a", "a"], (name, 5)])
    wrong.extend([("back", letter) for letter in letters] + [("back", "a", "a"), ("back", "a", 0), ("back", 5)])
    return wrong


class CodesTest(WardCase):
    def test_every_instruction_has_its_code(self):
        for instruction, code in all_codes().items():
            self.assertEqual(code, code_of(instruction))

    def test_every_word_is_the_code_of_its_instruction_or_of_none(self):
        instructions = {code: instruction for instruction, code in all_codes().items()}
        self.assertEqual(len(instructions), len(all_codes()))
        for word in range(65536):
            told = instruction_of(word)
            self.assertEqual(instructions.get(word), told)
            if told is not None:
                self.assertEqual(word, code_of(told))

    def test_samples(self):
        self.same(22529, code_of(("add", "c", "b")))
        self.same(22529, code_of(instruction=("add", "c", "b")))
        self.same(("set", "a", 5), instruction_of(4101))
        self.same(("set", "a", 5), instruction_of(word=4101))
        self.same(("halt",), instruction_of(0))
        self.same(0, code_of(("halt",)))
        self.same(8191, code_of(("set", "d", 1023)))
        self.same(("jump", 0), instruction_of(45056))
        self.same(("trap", 1023), instruction_of(13 * 4096 + 1023))
        self.same(("back", "d"), instruction_of(64512))

    def test_words_that_are_no_code(self):
        for word in (1, 4095, 1024, 8196, 8192 + 1023, 45056 + 1024, 49151, 53248 + 1024, 61441, 65535):
            self.assertIsNone(instruction_of(word))

    def test_wrong_instructions(self):
        self.refused(code_of, {"instruction": ("halt",)}, {"instruction": no_instructions()})

    def test_wrong_words(self):
        self.refused(instruction_of, {"word": 0}, {"word": NO_WORDS + ["halt", ("halt",)]})
        self.raised(BadArgument, {"name": "word"}, instruction_of, 65536)


if __name__ == "__main__":
    unittest.main()
