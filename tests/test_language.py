"""The rules of ../shared/LANGUAGE.md that can be counted."""

import ast
import pathlib
import re
import unittest

from tests.language import breaches, method_names

PACKAGE = pathlib.Path(__file__).resolve().parent.parent / "wardwork"
LONG = "def f():\n" + "    pass\n" * 39
# Texts that break a rule, with the rule that must be told.
WRONG = [
    ("L10", LONG + "    pass\n"),
    ("L10", "class A:\n    @property\n    def f(self):\n" + "        pass\n" * 39),
    ("L10", "# \n" * 400),
    ("L10", "#" + " " * 120 + "\n"),
    ("L10", "def f():\n\tpass\n"),
    ("L14", "# \u00e9\n"),
    ("L14", "# a\r\n"),
    ("L14", "# \x7f\n"),
    ("L27", "A = \"5 %\"\n"),
    ("L27", "def f(x):\n    return f\"{x} %\"\n"),
    ("L27", "\"\"\"Of 5 %.\"\"\"\n"),
    ("L27", "A = \"\\x41\"\n"),
    ("L27", "def f(n):\n    return 2 ** n\n"),
    ("L27", "def f(n):\n    return chr(n)\n"),
    ("L2", "from os import path\n"),
    ("L2", "from .frames import Frames\n"),
    ("L2", "from wardwork.frames import *\n"),
    ("L2", "from math import sqrt\n"),
    ("L6", "import math\n"),
    ("L3", "if True:\n    A = 1\n"),
    ("L4", "@wraps\ndef f():\n    pass\n"),
    ("L5", "class A:\n    def __hash__(self):\n        return 1\n"),
    ("L5", "class A:\n    def __getitem__(self, at):\n        return 1\n"),
    ("L6", "def f():\n    global A\n"),
    ("L7", "A = 1.5\n"),
    ("L7", "def f(n):\n    return n / 2\n"),
    ("L8", "def f(n):\n    return hash(n)\n"),
    ("L12", "def f():\n    _record = 1\n    return _record\n"),
    ("L13", "def f(x):\n    return x in {1, 2, 3}\n"),
    ("L15", "A = 1\nA = 2\n"),
    ("L15", "def f(id):\n    return id\n"),
    ("L17", "def f(register):\n    return register\n"),
    ("L17", "A = \"a type\"\n"),
    ("L17", "A = (\"#\", \"enum\")\n"),
    ("L18", "class A:\n    def f(self):\n        pass\n\n    def f(self):\n        pass\n"),
    ("L19", "def f():\n    try:\n        f()\n    except Exception:\n        pass\n"),
    ("L19", "def f(e):\n    raise e\n"),
    ("L20", "def f(a, b):\n    return a is b\n"),
    ("L25", "def f(x):\n    return x.encode_all()\n"),
]


def files():
    return sorted(path for path in PACKAGE.rglob("*") if path.is_file() and "__pycache__" not in path.parts)


class PackageTest(unittest.TestCase):
    def test_the_folder_holds_only_files_with_plain_names(self):
        self.assertTrue((PACKAGE / "__init__.py").is_file())
        for path in files():
            self.assertRegex(path.name, r"\A[a-z0-9_]+\.py\Z")
            self.assertFalse(path.name.startswith(("test", "law_")))

    def test_every_file_keeps_the_rules(self):
        trees = [ast.parse(path.read_text("utf-8")) for path in files()]
        methods = set().union(*[method_names(tree) for tree in trees])
        for path in files():
            text = path.read_bytes().decode("utf-8")
            told = [f"{path.name}:{line}: {rule}: {why}" for rule, line, why in breaches(text, methods)]
            self.assertEqual([], told)

    def test_no_two_files_import_from_each_other(self):
        above = {}
        for path in files():
            found = re.findall(r"^from wardwork\.(\w+) import", path.read_text("utf-8"), re.M)
            above[path.stem] = sorted(set(found))
        while above:
            leaves = [name for name, needed in above.items() if not any(other in above for other in needed)]
            self.assertTrue(leaves, above)
            for name in leaves:
                del above[name]


class NamesTest(unittest.TestCase):
    """L5 and L18: what a name means in one class it means in all."""

    def test_no_name_has_two_meanings(self):
        trees = [ast.parse(path.read_text("utf-8")) for path in files()]
        meanings = {}
        for node in [node for tree in trees for node in ast.walk(tree)]:
            if isinstance(node, ast.ClassDef):
                for part in [part for part in node.body if isinstance(part, ast.FunctionDef)]:
                    sort = part.decorator_list[0].id if part.decorator_list else "method"
                    meanings.setdefault(part.name, set()).add(sort)
            elif isinstance(node, ast.Attribute) and not isinstance(node.ctx, ast.Load):
                meanings.setdefault(node.attr, set()).add("attribute")
        self.assertEqual({}, {name: sorts for name, sorts in meanings.items() if len(sorts) > 1})
        self.assertEqual({"property"}, meanings["pages"])
        self.assertEqual({"staticmethod"}, meanings["restored"])


class CheckerTest(unittest.TestCase):
    def test_each_wrong_text_is_found(self):
        for rule, text in WRONG:
            with self.subTest(rule=rule, text=text[:60]):
                self.assertIn(rule, [breach[0] for breach in breaches(text)])

    def test_right_texts_are_let_through(self):
        for text in ("", LONG, "# % type\n", "#" + " " * 119 + "\n", "# \n" * 399, "# from ' ' to '~'\n",
                     "def f(n):\n    return n % 8\n", "A = \"a\\n\\\\\"\n"):
            self.assertEqual([], breaches(text), text[:60])


if __name__ == "__main__":
    unittest.main()
