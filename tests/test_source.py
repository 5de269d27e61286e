"""Source rows, read_source and print_source, [17] to [20]."""

import random
import re
import unittest

from tests.cases import WardCase
from tests.values import NO_INTEGERS
from wardwork.errors import BadArgument, BadText
from wardwork.source import print_source, read_source

OPERANDS = {
    "halt": "", "set": "RN", "copy": "RR", "load": "RR", "store": "RR", "add": "RR", "sub": "RR", "mul": "RR",
    "div": "RR", "less": "RR", "same": "RR", "jump": "N", "zero": "RN", "trap": "N", "link": "RN", "back": "R",
    "word": "W",
}
LABELLED = ("set", "jump", "zero", "link")
LABELS = ["a", "z", "a1", "zz99zz99", "abcdefgh", "set", "halt", "word", "b", "d", "trap", "x0"]
NO_LABELS = ["", "A", "1", "1a", "a-b", "a_b", "abcdefghi", "a.", "a:", "aB", "{", "`", "a b", "0"]
WRONG_NUMBERS = ["00", "01", "0x1", "-1", "+1", "1.", "100000", "000000", "1_0", "Go", "a-b"]


def good_bodies():
    """Every sort of body."""
    bodies = [None, ("halt",), ("word", 0), ("word", 65535), ("jump", 0), ("jump", 1023), ("trap", 0), ("trap", 1023)]
    for letter in "abcd":
        bodies.append(("back", letter))
        for name in ("set", "zero", "link"):
            bodies.extend([(name, letter, 0), (name, letter, 1023), (name, letter, "go"), (name, letter, letter)])
    for name in ("copy", "load", "store", "add", "sub", "mul", "div", "less", "same"):
        bodies.extend([(name, first, second) for first in "abcd" for second in "abcd"])
    bodies.extend([("jump", label) for label in LABELS] + [("set", "a", label) for label in LABELS])
    return bodies


def bad_bodies():
    """Plain values that are no body."""
    bodies = [x for x in NO_INTEGERS if x is not None]
    bodies.extend([0, 1, "halt", ["halt"], ("Halt",), ("",), ("go",), (["halt"],)])
    bodies.extend([("word",), ("word", -1), ("word", 65536), ("word", True), ("word", "go"), ("word", "5"),
                   ("word", None), ["word", 5], ("word", 5, 5), ("word", [5])])
    bodies.extend([("trap", "go"), ("back", 5), ("back", "e"), ("back", "a", "a"), ("halt", 0), ("halt", "go"),
                   ("copy", "a", "go"), ("copy", "a", 0), ("copy", "a"), ("add", "e", "a"), ("add", "a", "a", "a")])
    for name in LABELLED:
        head = (name,) if name == "jump" else (name, "a")
        bodies.extend([(name,), head + (5, 5), head + ("go", "go"), [*head, "go"], head + (-1,)])
        bodies.extend([head + (x,) for x in (1024, True, False, None, [5], ("go",), *NO_LABELS)])
    bodies.extend([("set", "go"), ("set", "e", "go"), ("set", 0, "go"), ("zero", ["a"], "go"), ("set", "set", 5)])
    return bodies


def wanted(line):
    """What [18] and [19] tell for one line: a row, or the column of its mistake. Written for this test."""
    tokens = [(found.start() + 1, found.group()) for found in re.finditer("[^ ]+", line.split("#")[0])]
    label = None
    if tokens and tokens[0][1][-1] == ":":
        label = tokens[0][1][:-1]
        if not re.fullmatch("[a-z][a-z0-9]{0,7}", label):
            return tokens[0][0]
        tokens.pop(0)
    if not tokens:
        return (label, None)
    name = tokens[0][1]
    if name not in OPERANDS:
        return tokens[0][0]
    body = [name]
    for at, sort in enumerate(OPERANDS[name], 1):
        if at == len(tokens):
            return tokens[-1][0] + len(tokens[-1][1])
        operand = wanted_operand(name, sort, tokens[at][1])
        if operand is None:
            return tokens[at][0]
        body.append(operand)
    if len(tokens) > len(body):
        return tokens[len(body)][0]
    return (label, tuple(body))


def wanted_operand(name, sort, token):
    if sort == "R":
        return token if re.fullmatch("[a-d]", token) else None
    if re.fullmatch("0|[1-9][0-9]{0,4}", token):
        return int(token) if int(token) <= (65535 if sort == "W" else 1023) else None
    return token if name in LABELLED and re.fullmatch("[a-z][a-z0-9]{0,7}", token) else None


class ReadTest(WardCase):
    def test_samples(self):
        rows = [("go", ("set", "a", 5)), (None, ("jump", "go"))]
        self.same(rows, read_source("go: set a 5 # start\n  jump go"))
        self.same(rows, read_source(text="go: set a 5\njump go"))

    def test_lines(self):
        self.same([(None, None)], read_source(""))
        self.same([(None, None)] * 2, read_source("\n"))
        self.same([(None, ("halt",)), (None, None)], read_source("halt\n"))
        self.same([(None, None), (None, ("halt",)), (None, None), (None, None)], read_source("\nhalt\n\n"))
        self.same([(None, None)] * 3, read_source("   \n#\n # halt: set"))

    def test_remarks_stand_directly_behind_a_token(self):
        self.same([("go", ("set", "a", 5))], read_source("go: set a 5# 6 #7"))
        self.same([("go", None)], read_source("go:#set"))
        self.same([(None, None)], read_source("#go: halt"))
        self.same([(None, ("halt",))], read_source("halt#"))

    def test_blanks_everywhere(self):
        self.same([("go", ("set", "a", 5))], read_source("   go:    set  a   5     # x"))
        self.same([("go", None), (None, ("back", "d"))], read_source("  go:  \n  back   d  "))

    def test_every_body_is_read(self):
        for body in good_bodies():
            text = "" if body is None else "  ".join(str(part) for part in body)
            self.same([(None, body)], read_source(text))
            for label in LABELS:
                self.same([(label, body)], read_source(" " + label + ": " + text))

    def test_numbers(self):
        for name, most in (("set a", 1023), ("jump", 1023), ("trap", 1023), ("zero d", 1023), ("link c", 1023),
                           ("word", 65535)):
            for number in (0, 1, 9, 10, 1000, most):
                self.same(number, read_source(f"{name} {number}")[0][1][-1])
            for number in (str(most + 1), "99999", *WRONG_NUMBERS):
                self.raised(BadText, {"line": 1, "column": len(name) + 2}, read_source, f"{name} {number}")

    def test_label_names_stand_for_numbers_in_four_operations_alone(self):
        for label in LABELS:
            for name in ("set b", "jump", "zero b", "link b"):
                self.same(label, read_source(f"{name} {label}")[0][1][-1])
            for name in ("trap", "word"):
                self.raised(BadText, {"line": 1, "column": 6}, read_source, f"{name} {label}")

    def test_longest_texts(self):
        text = "\n".join(["halt"] * 200)
        self.same([(None, ("halt",))] * 200, read_source(text))
        line = "go: set a 5 " + " " * 3986 + "#x"
        self.assertEqual(4000, len(line))
        self.same([("go", ("set", "a", 5))], read_source(line))
        line = " " * 3999 + "x"
        self.raised(BadText, {"line": 1, "column": 4000}, read_source, line)
        self.raised(BadText, {"line": 200, "column": 1}, read_source, "\n" * 199 + "x")
        lines = "\n".join(["abcdefgh: set a 1023"] * 190)
        self.assertLess(3900, len(lines))
        self.assertEqual(190, len(read_source(lines)))


class MistakesTest(WardCase):
    def mistake(self, text, line, column):
        with self.subTest(text=text):
            self.raised(BadText, {"line": line, "column": column}, read_source, text)

    def test_wrong_labels(self):
        for label in NO_LABELS:
            if " " not in label:
                self.mistake(f"  {label}: halt", 1, 3)
                self.mistake(f"{label}:", 1, 1)
        self.mistake("go: to: halt", 1, 5)
        self.mistake("go : halt", 1, 1)
        self.mistake(": halt", 1, 1)
        self.mistake("go:halt", 1, 1)
        self.mistake("Go: nothing", 1, 1)

    def test_wrong_operations(self):
        for name in ("nothing", "Halt", "go", "a", "5", "halt,", "hal", "haltt", "words", "-"):
            self.mistake(name, 1, 1)
            self.mistake("\n go:   " + name + " a 5", 2, 8)
        self.mistake("go: go", 1, 5)

    def test_wrong_operands(self):
        for name in ("e", "A", "ab", "0", "aa", "a,", "1"):
            self.mistake(f"copy {name} a", 1, 6)
            self.mistake(f"copy  a  {name}", 1, 10)
            self.mistake(f"set {name} 5", 1, 5)
            self.mistake(f"back {name}", 1, 6)
            self.mistake(f"x: zero {name} x", 1, 9)
        self.mistake("set a 1024", 1, 7)
        self.mistake("word 65536", 1, 6)

    def test_missing_tokens(self):
        self.mistake("set a", 1, 6)
        self.mistake("set a   ", 1, 6)
        self.mistake("set a # 5", 1, 6)
        self.mistake("set a# 5", 1, 6)
        self.mistake("  set", 1, 6)
        self.mistake("set", 1, 4)
        self.mistake("go: jump#go", 1, 9)
        self.mistake("x: copy d    #", 1, 10)
        for name, sorts in OPERANDS.items():
            if sorts:
                self.mistake(name + "   # a", 1, len(name) + 1)

    def test_tokens_too_many(self):
        self.mistake("halt 5", 1, 6)
        self.mistake("halt  halt", 1, 7)
        self.mistake("set a 5 6 7", 1, 9)
        self.mistake("word 5 go:", 1, 8)
        self.mistake("x: back a   a# b", 1, 13)
        self.mistake("jump go go", 1, 9)

    def test_the_first_mistake_from_the_left(self):
        self.mistake("set e", 1, 5)
        self.mistake("set e 5 6", 1, 5)
        self.mistake("set a -1 6", 1, 7)
        self.mistake("set e 9999 6", 1, 5)
        self.mistake("G: nothing x", 1, 1)
        self.mistake("nothing e", 1, 1)

    def test_the_first_line_with_a_mistake(self):
        self.mistake("halt\nset a\nnothing", 2, 6)
        self.mistake("halt 5\nnothing", 1, 6)
        self.mistake("# nothing\n\nset a 5 6\nG:", 3, 9)
        self.mistake("halt\n" * 199 + "jump", 200, 5)

    def test_random_lines_agree_with_the_words_of_the_document(self):
        chance = random.Random(18)
        parts = ["go:", "a:", "G:", ":", "set", "copy", "jump", "halt", "word", "back", "trap", "zero", "a", "d", "e",
                 "0", "5", "01", "1023", "1024", "65535", "65536", "go", "#", "# a", "  ", "abcdefghi", "link"]
        for _ in range(6000):
            line = ""
            for _ in range(chance.randrange(6)):
                line += chance.choice(parts) + chance.choice([" ", " ", " ", "  ", ""])
            told = wanted(line)
            if isinstance(told, int):
                self.mistake("halt\n" + line + "\nnothing", 2, told)
            else:
                self.same([told, (None, None)], read_source(line + "\n"))


class PrintTest(WardCase):
    def test_samples(self):
        rows = [("go", ("set", "a", 5)), (None, ("jump", "go")), (None, None), ("end", None), ("z", ("word", 65535))]
        self.assertEqual("go: set a 5\njump go\n\nend:\nz: word 65535", print_source(rows))
        self.assertEqual("", print_source([]))
        self.assertEqual("", print_source(rows=[(None, None)]))
        self.assertEqual("\n", print_source([(None, None)] * 2))
        self.assertEqual("halt", print_source([(None, ("halt",))]))

    def test_back_and_forth(self):
        bodies = good_bodies()
        for label in [None] + LABELS:
            rows = [(label, body) for body in bodies]
            for at in range(0, len(rows), 200):
                part = rows[at:at + 200]
                self.same(part, read_source(print_source(part)))

    def test_at_most_200_rows(self):
        rows = [("abcdefgh", ("set", "a", "abcdefgh"))] * 200
        self.same(rows, read_source(print_source(rows)))
        self.raised(BadArgument, {"name": "rows"}, print_source, rows + [(None, None)])
        self.same([(None, None)] * 200, read_source(print_source([(None, None)] * 200)))
        self.raised(BadArgument, {"name": "rows"}, print_source, [(None, None)] * 201)

    def test_wrong_rows(self):
        self.refused(print_source, {"rows": []}, {"rows": no_rows()})

    def test_lists_are_not_changed(self):
        rows = [("go", ("set", "a", 5))]
        print_source(rows)
        self.assertEqual([("go", ("set", "a", 5))], rows)
        first = read_source("halt")
        first.clear()
        self.assertEqual([(None, ("halt",))], read_source("halt"))


def no_rows():
    """Plain values that are no list of source rows."""
    wrong = [x for x in NO_INTEGERS if x != []]
    wrong.extend([0, 1, "halt", ((None, None),), [None], ["halt"], [("halt",)], [[None, None]], [(None,)], [()]])
    wrong.extend([[(None, None, None)], [("go", ("halt",), None)], [(None, ("halt",)), None], ["ab"]])
    labels = [x for x in NO_INTEGERS + NO_LABELS + [0, 5] if x is not None and x != "a"]
    wrong.extend([[("go", None), (label, ("halt",))] for label in labels])
    wrong.extend([[(None, ("halt",)), ("go", body)] for body in bad_bodies()])
    return wrong


if __name__ == "__main__":
    unittest.main()
