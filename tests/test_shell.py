"""Shell, [78]."""

import random
import unittest

from tests.cases import WardCase
from tests.filing import Model, random_deed
from tests.test_filters import NO_TURNS, random_command
from tests.values import no_integers_of
from wardwork.disk import Disk
from wardwork.errors import BadArgument, BadText, Stopped, WardError
from wardwork.files import Files
from wardwork.filters import Filter, run_pipeline
from wardwork.phrases import parse_line, print_line
from wardwork.rights import Rights
from wardwork.shell import Shell
from wardwork.soundness import is_sound

GOOD, BAD = "emit 1", "nil"


def shell_of(blocks=64, deeds=(), rights=(), stop=None):
    """A shell for user 3 on a disk with these deeds done, and its disk. Without rights the user may do all."""
    disk = Disk(blocks)
    files = Files(disk)
    for deed in deeds:
        getattr(files, deed[0])(*deed[1:])
    book = Rights()
    for thing, marks in rights:
        book.root(3, thing, marks)
    loaded = Disk.loaded(disk.image(), stop=stop)
    return Shell(Files(loaded), book, 3), loaded


def statuses(told):
    return [status for status, words in told]


class JointTest(WardCase):
    def test_done_failed_and_skipped_in_every_combination(self):
        shell, disk = shell_of()
        self.same([], shell.run(""))
        self.same([], shell.run("   "))
        for code in range(2 ** 4 * 2 ** 3):
            good = [code >> k & 1 for k in range(4)]
            joints = ["", *[";" if code >> 4 + k & 1 else "&&" for k in range(3)]]
            text = " ".join(joint + " " + (GOOD if fine else BAD) for joint, fine in zip(joints, good))
            right = []
            for joint, fine in zip(joints, good):
                if joint == "&&" and right[-1][0] != "done":
                    right.append(("skipped", []))
                else:
                    right.append(("done", [1]) if fine else ("failed", []))
            self.same(right, shell.run(text))
            self.same(right, shell(text))
        self.same(0, disk.writes)

    def test_skipped_is_not_done(self):
        shell, disk = shell_of()
        self.same(["failed", "skipped", "skipped", "done", "done"],
                  statuses(shell("nil && emit 1 && emit 2 ; emit 3 && emit 4")))


class RunTest(WardCase):
    def test_sources_and_targets(self):
        deeds = [("make_file", "/a"), ("write", "/a", [3, 1, 2])]
        shell, disk = shell_of(deeds=deeds, rights=[("/a", "r"), ("/b", "w"), ("/c", "rw")])
        self.same([("done", [3, 1, 2])], shell("pass < /a"))
        self.same([("done", [1, 2])], shell("sort < /a | first 2"))
        self.same(0, disk.writes)
        self.same([("done", []), ("failed", [])], shell.run("sort < /a | flip > /b ; pass < /b"))
        self.same([("/a", "file", 1, [3, 1, 2]), ("/b", "file", 2, [3, 2, 1])], Files(disk).tree())
        self.same([("done", []), ("done", [9, 9])], shell.run("emit 9 9 > /c && pass < /c"))
        # A source that is its own target.
        self.same([("done", []), ("done", [19])], shell.run("sum < /c | add 1 > /c; pass < /c"))
        # Without a source there are no words.
        self.same([("done", [0]), ("done", [])], shell.run(text="count; pass"))
        self.assertTrue(is_sound(disk.image()))

    def test_two_deeds_for_a_new_file(self):
        shell, disk = shell_of(rights=[("/b", "w")])
        shell("emit 5 > /b")
        other = Disk(64)
        Files(other).make_file("/b")
        Files(other).write("/b", [5])
        self.same((other.image(), other.writes), (disk.image(), disk.writes))
        # An empty result needs only the first one, and the words that are there none.
        shell, disk = shell_of(rights=[("/b", "w")])
        shell("pass > /b")
        self.same((8, [("/b", "file", 1, [])]), (disk.writes, Files(disk).tree()))
        shell("pass > /b")
        self.same(8, disk.writes)

    def test_a_mistake_in_the_text(self):
        shell, disk = shell_of(rights=[("/b", "w")])
        for text, column in (("emit 1 > /b ;", 14), ("emit 1 > /b & pass", 13), ("'", 1), ("emit 1 > /b ; pass A", 20)):
            self.raised(BadText, {"line": 1, "column": column}, shell.run, text)
            self.raised(BadText, {"line": 1, "column": column}, shell, text)
        self.same((0, []), (disk.writes, Files(disk).tree()))

    def test_room_and_turns(self):
        shell, disk = shell_of()
        text = "emit 1 2 3 | flip ; emit 5 | pass | sum | add 1"
        for room in (1, 16):
            for turns in ([], (), [0, 1, 2, 3, 4, 5, 6, 7] * 37, (7,) * 300, [1] * 300, [3, 2, 1, 0]):
                self.same([("done", [3, 2, 1]), ("done", [6])], shell.run(text, room=room, turns=turns))
        wrong = {"room": no_integers_of(1, 16), "turns": NO_TURNS + [[8], (8,), [0, 8]]}
        self.refused(shell.run, {"text": text, "room": 1, "turns": [7]}, wrong)
        # They go ahead of BadText, and are asked if nothing is run.
        for bad in ("'", ""):
            self.refused(shell.run, {"text": bad, "room": 1, "turns": [7]}, wrong)

    def test_the_user_is_asked(self):
        files = Files(Disk(30))
        self.refused(Shell, {"files": files, "rights": Rights(), "user": 0}, {"user": no_integers_of(0, 7)})
        for user in (0, 7):
            self.same([("done", [1])], Shell(files, Rights(), user)("emit 1"))

    def test_lists_are_new(self):
        shell, disk = shell_of(deeds=[("make_file", "/a"), ("write", "/a", [3])], rights=[("/a", "r")])
        turns = [1, 2, 5]
        told = shell.run("pass < /a", turns=turns)
        told[0][1].clear()
        told.clear()
        self.same([1, 2, 5], turns)
        self.same([("done", [3])], shell("pass < /a"))


class FailTest(WardCase):
    """Each reason to fail, alone. A pipeline that fails writes no block, also on a stopped disk."""

    DEEDS = [("make_file", "/a"), ("make_folder", "/f"), ("make_file", "/f/a"), ("write", "/a", [1, 2])]
    ALL = [(path, "rw") for path in ("/a", "/f", "/f/a", "/f/b", "/", "/nil", "/nil/x", "/a/x", "/b")]

    def fails(self, text, deeds=DEEDS, rights=ALL, blocks=64):
        for stop in (None, 0):
            shell, disk = shell_of(blocks, deeds, rights, stop)
            before = disk.image()
            with self.subTest(text=text, stop=stop):
                self.same([("failed", [])], shell(text))
                self.same((before, 0), (disk.image(), disk.writes))

    def succeeds(self, text, deeds=DEEDS, rights=ALL, blocks=64):
        shell, disk = shell_of(blocks, deeds, rights)
        with self.subTest(text=text):
            self.assertEqual("done", shell(text)[0][0])
            self.assertTrue(is_sound(disk.image()))

    def test_the_filters(self):
        self.succeeds(" | ".join(["pass"] * 8))
        self.fails(" | ".join(["pass"] * 9))
        for command in ("nil", "pass 1", "add", "add 65536", "add 01", "emit", "emit 1 2 3 4 5 6 7 8 9", "''", "add ''"):
            self.fails(command)
            self.fails("pass | " + command + " | sum")
            self.fails("pass < /a | " + command + " > /b")
        self.succeeds("add 65535 < /a | emit 1 2 3 4 5 6 7 8 > /b")

    def test_no_paths(self):
        for path in ("a", "''", "/a/", "//", "'/A'", "/abcdefg", "/1", "'/ a'", "/a.b", "/" + "/".join("a" * 17), "'a b'"):
            self.fails("pass < " + path)
            self.fails("emit 1 > " + path)

    def test_rights(self):
        for marks, source, target in (("r", True, False), ("w", False, True), ("g", False, False), ("rw", True, True),
                                      ("rg", True, False), ("wg", False, True)):
            for call, text in ((source, "pass < /a"), (target, "emit 1 > /a")):
                (self.succeeds if call else self.fails)(text, rights=[("/a", marks)])
        self.fails("pass < /a", rights=[])
        self.fails("pass < /a", rights=[("/b", "rwg"), ("/", "rwg"), ("/a/a", "rwg"), ("a", "rwg")])
        self.fails("pass < /a > /b", rights=[("/a", "rwg")])
        self.fails("pass < /a > /b", rights=[("/b", "rwg")])
        self.succeeds("pass < /a > /b", rights=[("/b", "w"), ("/a", "r")])
        self.succeeds("pass < /a > /a", rights=[("/a", "w"), ("/a", "r")])
        # Rights of others, and rights that are gone.
        shell, disk = shell_of(deeds=self.DEEDS)
        book = Rights()
        number = book.root(3, "/a", "r")
        mine, other = Shell(Files(disk), book, 3), Shell(Files(disk), book, 4)
        self.same((["done"], ["failed"]), (statuses(mine("pass < /a")), statuses(other("pass < /a"))))
        book.take_back(number)
        self.same(["failed"], statuses(mine("pass < /a")))

    def test_no_file_to_read(self):
        for path in ("/f", "/", "/nil", "/nil/x", "/a/x"):
            self.fails("pass < " + path)
            self.fails("pass < " + path + " > /b")

    def test_no_place_to_write(self):
        for path in ("/f", "/", "/nil/x", "/a/x"):
            self.fails("emit 1 > " + path)
            self.fails("pass > " + path)
        self.succeeds("emit 1 > /f/b")
        self.succeeds("emit 1 > /f/a")

    def test_a_full_folder(self):
        deeds = [("make_file", "/" + sign) for sign in "abcdefghij"]
        rights = [("/a", "rw"), ("/z", "rw")]
        self.fails("emit 1 > /z", deeds, rights)
        self.fails("pass > /z", deeds, rights)
        self.succeeds("emit 1 > /a", deeds, rights)
        self.succeeds("emit 1 > /z", deeds[:9], rights)

    def test_no_free_node(self):
        deeds = [("make_folder", "/f")] + [("make_file", "/f/" + sign) for sign in "abcdefghij"]
        deeds += [("make_file", "/" + sign) for sign in "abcd"]
        rights = [("/a", "rw"), ("/z", "rw")]
        self.fails("emit 1 > /z", deeds, rights)
        self.fails("pass > /z", deeds, rights)
        self.succeeds("emit 1 > /a", deeds, rights)
        self.succeeds("emit 1 > /z", deeds[:-1], rights)

    def test_blocks_of_a_target_that_is_there(self):
        emit = "emit 1 2 3 4 5 6 7 8"
        deeds = [("make_file", "/a"), ("make_file", "/b"), ("write", "/b", [1] * 20)]
        rights = [("/a", "rw"), ("/b", "r")]
        for blocks, words, fits in ((28, 0, True), (28, 1, False), (29, 8, True), (29, 9, False), (29, 20, False),
                                    (30, 16, True), (30, 17, False), (31, 20, True)):
            text = "first " + str(words) + " < /b > /a"
            (self.succeeds if fits else self.fails)(text, deeds, rights, blocks)
        self.succeeds(emit + " > /a", deeds, rights, 29)
        # Only further blocks must be free.
        deeds = [("make_file", "/a"), ("write", "/a", [1] * 9)]
        self.succeeds("pass < /a > /a", deeds, [("/a", "rw")], 27)
        self.succeeds(emit + " > /a", deeds, [("/a", "rw")], 27)

    def test_blocks_of_a_new_file(self):
        rights = [("/a", "r"), ("/z", "w")]
        # An odd number of entries: the folder needs no block more.
        deeds = [("make_file", "/a"), ("write", "/a", [1] * 20)]
        for blocks, words, fits in ((28, 0, True), (28, 1, False), (29, 8, True), (29, 9, False), (31, 20, True),
                                    (30, 20, False)):
            text = "first " + str(words) + " < /a > /z"
            (self.succeeds if fits else self.fails)(text, deeds, rights, blocks)
        # An even number: it needs one more.
        deeds.append(("make_file", "/b"))
        for blocks, words, fits in ((28, 0, False), (29, 0, True), (29, 1, False), (30, 8, True), (30, 9, False),
                                    (32, 20, True), (31, 20, False)):
            text = "first " + str(words) + " < /a > /z"
            (self.succeeds if fits else self.fails)(text, deeds, rights, blocks)
        self.succeeds("pass > /z", [], [("/z", "w")], 25)
        self.fails("emit 1 > /z", [], [("/z", "w")], 25)


class StoppedTest(WardCase):
    def test_pipelines_that_need_no_write(self):
        deeds = [("make_file", "/a"), ("write", "/a", [1, 2])]
        shell, disk = shell_of(deeds=deeds, rights=[("/a", "rw"), ("/b", "rw")], stop=0)
        self.same([("done", [1, 2]), ("done", []), ("failed", []), ("skipped", []), ("done", [0])],
                  shell("pass < /a ; emit 1 2 > /a ; nil && pass ; sum"))
        self.raised(Stopped, {"done": 0}, shell, "pass < /a ; emit 1 > /a ; sum")
        self.same(0, disk.writes)

    def test_each_number_of_writes(self):
        deeds = [("make_file", "/a"), ("write", "/a", [1, 2])]
        rights = [("/a", "rw"), ("/b", "rw")]
        # The first pipeline commits 3 blocks and then 2, the second one 1.
        text = "flip < /a > /b ; emit 7 > /a ; pass < /b"
        trees = [[[1, 2]]] * 4 + [[[1, 2], []]] * (5 + 2) + [[[1, 2], [2, 1]]] * (4 + 2) + [[[7], [2, 1]]] * 4
        for stop, tree in enumerate(trees[:20]):
            shell, disk = shell_of(deeds=deeds, rights=rights, stop=stop)
            self.raised(Stopped, {"done": stop}, shell, text)
            self.same(stop, disk.writes)
            words = [row[3] for row in Files(Disk.loaded(disk.image())).tree()]
            with self.subTest(stop=stop):
                self.same(tree, words)
        shell, disk = shell_of(deeds=deeds, rights=rights, stop=20)
        self.same([("done", []), ("done", []), ("done", [2, 1])], shell(text))
        self.same(20, disk.writes)


class RandomTest(WardCase):
    """Random lines on small disks. Whether there is room is found out by trying."""

    def right(self, text, files, book, turns):
        told = []
        for joint, source, commands, target in parse_line(text):
            if joint == "&&" and told[-1][0] != "done":
                told.append(("skipped", []))
            else:
                told.append(self.pipeline(source, commands, target, files, book, turns))
        return told

    def pipeline(self, source, commands, target, files, book, turns):
        try:
            for name, terms in commands:
                Filter(name, terms)
            words = files.read(source) if source else []
            for path, mark in ((source, "r"), (target, "w")):
                if path and not book.may(3, path, mark):
                    return ("failed", [])
            result = run_pipeline(commands, words, turns=[turn for turn in turns if turn < len(commands)])
            if target:
                trial = Files(Disk.loaded(files._disk.image()))
                for one in (trial, files):
                    if target not in one:
                        one.make_file(target)
                    one.write(target, result)
            return ("done", [] if target else result)
        except WardError as error:
            self.assertNotIsInstance(error, Stopped)
            return ("failed", [])

    def test_random_lines(self):
        told = {}
        for seed in range(150):
            chance = random.Random(seed)
            blocks = chance.choice([25, 27, 30, 34, 64])
            model, files = Model(blocks), Files(Disk(blocks))
            for _ in range(30):
                deed = random_deed(chance, model)
                if not model.due(*deed):
                    model.do(*deed)
                    getattr(files, deed[0])(*deed[1:])
            paths = files.listing("/")
            paths = ["/", "/new", "/a/b", "/b/c", "/nil/x"] + ["/" + name for name in paths] * 2
            paths += [row[0] for row in files.tree()]
            book = Rights()
            for path in paths:
                book.root(chance.choice([3, 3, 3, 3, 2]), path, chance.choice(["rw", "rwg", "rw", "r", "w"]))
            mine = Files(Disk.loaded(files._disk.image()))
            shell = Shell(mine, book, 3)
            for _ in range(12):
                tree = []
                for number in range(chance.randrange(1, 4)):
                    commands = [random_command(chance) for _ in range(chance.choice([1, 1, 2, 3]))]
                    source, target = [chance.choice([None, chance.choice(paths)]) for _ in range(2)]
                    tree.append((chance.choice([";", "&&"]) if number else "", source, commands, target))
                text, turns = print_line(tree), [chance.randrange(8) for _ in range(20)]
                right = self.right(text, files, book, turns)
                self.same(right, shell.run(text, room=chance.randrange(1, 17), turns=turns))
                self.same(files._disk.image(), mine._disk.image())
                for status, words in right:
                    told[status] = told.get(status, 0) + 1
        self.assertTrue(min(told.values()) > 300, told)

    def test_a_wrong_argument_is_no_failure(self):
        shell, disk = shell_of()
        self.raised(BadArgument, {"name": "room"}, shell.run, "pass", room=0)


if __name__ == "__main__":
    unittest.main()
