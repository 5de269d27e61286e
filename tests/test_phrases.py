"""Command lines: parse_line, [72] to [74], and print_line, [75]."""

import copy
import itertools
import random
import re
import unittest

from tests.cases import WardCase
from tests.values import NO_INTEGERS
from wardwork.errors import BadArgument, BadText
from wardwork.phrases import parse_line, print_line

TOKEN = re.compile(r"([a-z0-9/._-]+)|'([^']*)'|(&&|[|<>;])")


class Reader:
    """Reads a command line by descent, and keeps the columns: a second way beside that of the program."""

    def __init__(self, text):
        self.text = text
        self.at = 0
        self.sort, self.term, self.column = None, None, None
        self.advance(False)

    def advance(self, behind_term=True):
        start = self.at
        while self.text[self.at:self.at + 1] == " ":
            self.at += 1
        self.column = self.at + 1
        if self.at == len(self.text):
            self.sort = "end"
            return
        found = TOKEN.match(self.text, self.at)
        if not found:
            raise BadText(1, self.column)
        plain, quoted, operator = found.groups()
        if operator is None and behind_term and self.at == start:
            raise BadText(1, self.column)
        self.at = found.end()
        self.sort = operator or "term"
        self.term = plain if quoted is None else quoted

    def take_term(self):
        if self.sort != "term":
            raise BadText(1, self.column)
        term = self.term
        self.advance()
        return term

    def take_operator(self):
        operator = self.sort
        self.advance(False)
        return operator

    def command(self):
        name, terms = self.take_term(), []
        while self.sort == "term":
            terms.append(self.take_term())
        return (name, terms)

    def pipeline(self, joint):
        commands, source, target = [self.command()], None, None
        if self.sort == "<":
            self.take_operator()
            source = self.take_term()
        while self.sort == "|":
            self.take_operator()
            commands.append(self.command())
        if self.sort == ">":
            self.take_operator()
            target = self.take_term()
        return (joint, source, commands, target)

    def line(self):
        tree = []
        joint = ""
        while self.sort != "end" or tree:
            tree.append(self.pipeline(joint))
            if self.sort == "end":
                return tree
            if self.sort not in (";", "&&"):
                raise BadText(1, self.column)
            joint = self.take_operator()
        return tree


def told_by(reader, text):
    try:
        return reader(text)
    except BadText as mistake:
        return (mistake.line, mistake.column)


class ParseTest(WardCase):
    def test_the_example(self):
        self.same([("", "/a", [("sort", []), ("first", ["2"])], "/b"), (";", None, [("emit", ["3"])], None)],
                  parse_line("sort < /a | first 2 > /b ; emit '3'"))

    def test_texts_without_a_pipeline(self):
        for text in ("", " ", "    ", " " * 4000):
            self.same([], parse_line(text))
        self.same([], parse_line(text=""))

    def test_commands_and_terms(self):
        self.same([("", None, [("a", [])], None)], parse_line("a"))
        self.same([("", None, [("a", ["b", "c"])], None)], parse_line("  a   b c  "))
        self.same([("", None, [("a0/._-z9", ["-", ".", "_", "/", "0"])], None)], parse_line("a0/._-z9 - . _ / 0"))
        self.same([("", None, [("", ["", " ", "A & b|<>;&&", "a"])], None)], parse_line("'' '' ' ' 'A & b|<>;&&' 'a'"))

    def test_operators_with_and_without_blanks(self):
        tree = [("", "s", [("a", ["x"]), ("b", []), ("c", ["y"])], "t"), (";", None, [("d", [])], None),
                ("&&", "u", [("e", [])], "v"), ("&&", None, [("f", [])], None)]
        for blank in ("", " ", "   "):
            text = "a x<s|b|c y>t;d&&e<u>v&&f"
            for operator in ("<", "|", ">", ";", "&&"):
                text = text.replace(operator, blank + operator + blank)
            self.same(tree, parse_line(blank + text + blank))
        self.same([("", "s", [("a", ["b"])], "t")], parse_line("'a' 'b'<'s'>'t'"))
        self.same([("", None, [("a", []), ("", [])], None)], parse_line("a|''"))

    def test_long_texts(self):
        self.assertEqual(2000, len(parse_line("a;" * 1999 + "ab")))
        self.same([("", None, [("a", [])] * 2000, None)], parse_line("|".join("a" * 2000)))
        self.same([("", None, [("a", ["b"] * 1999)], None)], parse_line("a" + " b" * 1999))
        self.same([("", None, [("a" * 4000, [])], None)], parse_line("a" * 4000))
        self.same([("", None, [(" " * 3998, [])], None)], parse_line("'" + " " * 3998 + "'"))

    def test_mistakes(self):
        for text, column in (
                # No term and no operator.
                ("A", 1), ("a A", 3), ("aA", 2), ("&", 1), ("a & b", 3), ("a&b", 2), ("a &&& b", 5), ("a&&&&b", 4),
                ("a && && b", 6), ("a\\", 2), ("a > b\"", 6), ("a,b", 2), ("a = b", 3), ("(a)", 1), ("a~", 2), ("a#", 2),
                # A quoted term without an end.
                ("'", 1), ("a 'b", 3), ("a '", 3), ("'a' 'b' '", 9), ("a > 'b c ; d", 5), ("'''", 3),
                # A term directly behind another one.
                ("a'b'", 2), ("'a'b", 4), ("'a''b'", 4), ("a b'c'", 4), ("a < b'c'", 6), ("a'b", 2), ("''''", 3),
                ("a > b'c'", 6), ("''a", 3),
                # A term or operator in a wrong place.
                ("|", 1), ("<", 1), (">", 1), (";", 1), ("&&", 1), (" ; a", 2), ("a || b", 4), ("a | < b", 5),
                ("a < | b", 5), ("a < < b", 5), ("a < b < c", 7), ("a < b c", 7), ("a | b < c", 7), ("a > b < c", 7),
                ("a > b > c", 7), ("a > b | c", 7), ("a > b c", 7), ("a > > b", 5), ("a > ; b", 5), ("a < && b", 5),
                ("a ; ; b", 5), ("a ; && b", 5), ("a && ; b", 6), ("a | ; b", 5), ("a ; | b", 5), ("a ; < b", 5),
                ("a > < b", 5), ("a | | b", 5), ("a < > b", 5), ("a | > b", 5), ("a ; > b", 5), ("a > && b", 5),
                # The end of the text.
                ("a ;", 4), ("a ;  ", 6), ("a &&", 5), ("a && ", 6), ("a |", 4), ("a <", 4), ("a < ", 5), ("a > ", 5),
                ("a|", 3), ("a < b |", 8), (" a ; b >   ", 12)):
            with self.subTest(text=text):
                self.raised(BadText, {"line": 1, "column": column}, parse_line, text)

    def test_the_least_column_of_two_mistakes(self):
        mistakes = ["A", "& ", "'x", "a'b'", "< c c", "> c c", "| |", "; ;"]
        for one, two in itertools.product(mistakes, repeat=2):
            text = "a " + one + " " + two
            right = told_by(lambda text: Reader(text).line(), text)
            self.assertIsInstance(right, tuple)
            self.same(right, told_by(parse_line, text))
            if one != "'x":
                self.assertLessEqual(right[1], 3 + len(one), text)

    def test_every_short_text_against_another_reader(self):
        for many in range(6):
            for signs in itertools.product("a'|<>;& A", repeat=many):
                text = "".join(signs)
                right = told_by(lambda text: Reader(text).line(), text)
                told = told_by(parse_line, text)
                if right != told or repr(right) != repr(told):
                    self.fail((text, right, told))

    def test_random_texts_against_another_reader(self):
        chance = random.Random(0)
        parts = ["a", "b", "'c d'", "''", " ", " ", " ", "|", "<", ">", ";", "&&", " | ", " < ", " > ", " ; ", " && ", "x y "]
        told = []
        for _ in range(4000):
            text = "".join(chance.choice(parts) for _ in range(chance.randrange(1, 14)))
            right = told_by(lambda text: Reader(text).line(), text)
            self.same(right, told_by(parse_line, text))
            told.append(isinstance(right, list))
        self.assertGreater(sum(told), 200)


class PrintTest(WardCase):
    def test_one_standard_text(self):
        for text, right in (
                ("", ""), ("a", "a"), ("  a  ", "a"), ("a<s|b>t;c", "a < s | b > t ; c"), ("'a' 'b c' ''", "a 'b c' ''"),
                ("a&&b&&c;d", "a && b && c ; d"), ("a x y<'S'|b z>'/'", "a x y < 'S' | b z > /"), ("'A' '&'", "'A' '&'"),
                ("a|'0/._-z'", "a | 0/._-z"), ("''<''>''", "'' < '' > ''")):
            self.same(right, print_line(parse_line(text)))
        self.same("", print_line(tree=[]))

    def test_back_and_forth(self):
        for seed in range(150):
            tree = random_tree(random.Random(seed))
            kept = copy.deepcopy(tree)
            text = print_line(tree)
            self.same(kept, tree)
            self.same(tree, parse_line(text))
            self.same(text, print_line(parse_line(text)))

    def test_the_greatest_tree(self):
        command = ("A" * 40, [" " * 40] * 8)
        greatest = [("", "B" * 40, [command] * 8, "C" * 40)] + [("&&", "B" * 40, [command] * 8, "C" * 40)] * 19
        text = print_line(greatest)
        self.assertGreater(len(text), 50000)
        self.same(greatest, parse_line(text))

    def test_wrong_trees(self):
        good = ("", "/a", [("sort", ["x"]), ("b", [])], "/b")
        self.same("sort x < /a | b > /b", print_line([good]))
        wrong = [x for x in NO_INTEGERS if x != []] + [good, (good,), [list(good)], [good[:3]], [good + (None,)]]
        texts = [True, False, 0, 1, None, "'", "a'", "x" * 41, [], ["a"], ("a",), ()]
        for joint in texts + ["|", "&", "& &", ";", "&&", " ", "; "]:
            wrong.append([(joint,) + good[1:]])
            if joint not in (";", "&&"):
                wrong.append([good, (joint,) + good[1:]])
        wrong.append([good, good])
        for text in texts:
            if text is not None:
                wrong.append([good[:1] + (text,) + good[2:]])
                wrong.append([good[:3] + (text,)])
            for command in [(text, []), ("a", [text]), ("a", ["b"] * 7 + [text])]:
                wrong.extend([[("", None, [command], None)], [("", None, [("a", []), command], None)]])
        for commands in [None, True, "a", 0, [], (), (("a", []),), ("a", []), [["a", []]], [("a",)], [("a", [], [])], ["a"],
                         [("a", ())], [("a", None)], [("a", "b")], [("a", ["b"] * 9)], [("a", [])] * 9, [[]], [()],
                         [None], [("a", ("b",))]]:
            wrong.append([("", None, commands, None)])
        later = (";",) + good[1:]
        wrong.append([good] + [later] * 20)
        wrong.append([later])
        for tree in wrong:
            with self.subTest(tree=tree):
                self.raised(BadArgument, {"name": "tree"}, print_line, tree)
        # The bounds themselves.
        self.assertEqual(20, len(parse_line(print_line([good] + [later] * 19))))
        # A tree that the program made is refused, too, if it is too great.
        for text in ("a;" * 20 + "b", "|".join("a" * 9), "a" + " b" * 9, "a" * 41, "'" + " " * 41 + "'"):
            self.raised(BadArgument, {"name": "tree"}, print_line, parse_line(text))

    def test_lists_are_new(self):
        tree = parse_line("a b ; c")
        tree[0][2][0][1].append("d")
        tree[0][2].append(("e", []))
        tree.clear()
        self.same([("", None, [("a", ["b"])], None), (";", None, [("c", [])], None)], parse_line("a b ; c"))


def random_tree(chance):
    def text():
        signs = chance.choice(["abz09/._-", "aA &|<>;~\"#/ "])
        return "".join(chance.choice(signs) for _ in range(chance.choice([0, 1, 2, 5, 40])))

    def command():
        return (text(), [text() for _ in range(chance.choice([0, 0, 1, 2, 8]))])

    tree = []
    for number in range(chance.choice([0, 1, 2, 3, 20])):
        joint = chance.choice([";", "&&"]) if number else ""
        commands = [command() for _ in range(chance.choice([1, 1, 2, 3, 8]))]
        tree.append((joint, chance.choice([None, text()]), commands, chance.choice([None, text()])))
    return tree


if __name__ == "__main__":
    unittest.main()
