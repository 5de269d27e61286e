"""Files: paths, [59], deeds, [60], questions, [62], the image, [63] and [64]."""

import copy
import random
import unittest

from tests.cases import WardCase
from tests.filing import Model, random_deed
from tests.values import ANYTHING, NO_INTEGERS, no_words_of
from wardwork.disk import Disk
from wardwork.errors import BadArgument, Full, Stopped, WrongState
from wardwork.files import Files
from wardwork.journal import commit
from wardwork.soundness import is_sound

BLANK = [0] * 8
NO_PATHS = NO_INTEGERS + [
    "a/b", "//", "/a/", "/a//b", "//a", "/A", "/a1", "/1", "/a b", "/ a", "/abcdefg", "/a/abcdefg", "/a.b", "/-",
    "/a/B", " /a", "/a ", "/" + "/".join("a" * 17), "/a" * 17, "/" * 18, "/:", "/a\\b", ["/"], ["/a"], ("/a",), "/abcdefg/a"]


def files_of(*paths, blocks=64):
    """Files with these folders (they end with `/`) and files."""
    files = Files(Disk(blocks))
    for path in paths:
        if path.endswith("/"):
            files.make_folder(path[:-1])
        else:
            files.make_file(path)
    return files


def crowd():
    """Deeds that fill a folder."""
    yield ("make_folder", "/full")
    yield ("make_file", "/a")
    for sign in "abcdefghij":
        yield ("link", "/a", "/full/" + sign)


def image_of(files):
    return files._disk.image()


def seen(files):
    return copy.deepcopy((image_of(files), files._disk.writes))


class DiskTest(WardCase):
    def test_the_number_of_blocks(self):
        for blocks in (9, 16, 23, 24):
            image = [[1, 8] + [0] * 6] + [list(BLANK) for _ in range(blocks - 1)]
            for disk in (Disk(blocks), Disk.loaded(image)):
                before = (disk.image(), disk.writes)
                self.raised(BadArgument, {"name": "disk"}, Files, disk)
                self.same(before, (disk.image(), disk.writes))
        for blocks in (25, 26, 64):
            files = Files(disk=Disk(blocks, stop=0))
            self.same(([], blocks - 24, 15), (files.tree(), files.blocks_left(), files.nodes_left()))
            self.same([], files.listing("/"))

    def test_class_values(self):
        self.same((40, 10, 16), (Files.WORDS, Files.ENTRIES, Files.NODES))
        self.same((40, 10, 16), (files_of().WORDS, files_of().ENTRIES, files_of().NODES))

    def test_a_commit_that_is_half_done(self):
        whole = Disk(30)
        Files(whole).make_folder("/a")
        image = whole.image()
        Files(whole).make_file("/a/b")
        changes = [(block, words) for block, words in enumerate(whole.image()) if block > 7 and words != image[block]]
        for stop in range(2 * len(changes) + 3):
            disk = Disk.loaded(image, stop=stop)
            try:
                commit(disk, changes)
            except Stopped:
                pass
            files = Files(Disk.loaded(disk.image()))
            self.assertEqual(stop > len(changes), "/a/b" in files)
            self.assertEqual(BLANK, image_of(files)[0])
            left = len(changes) + 1 if len(changes) < stop < 2 * len(changes) + 2 else 0
            # The constructor recovers, or the stop of the disk stops it.
            for again in range(left):
                self.raised(Stopped, {"done": again}, Files, Disk.loaded(disk.image(), stop=again))
            self.same(left, files._disk.writes)

    def test_a_damaged_header(self):
        for header in ([8] * 8, [1, 7] + [0] * 6, [1, 30] + [0] * 6, [2, 9, 9] + [0] * 5, [0, 1] + [0] * 6):
            disk = Disk.loaded([header] + [list(BLANK) for _ in range(29)], stop=0)
            self.raised(WrongState, {"what": "journal"}, Files, disk)
            self.same((header, 0), (disk.read(0), disk.writes))

    def test_two_objects_on_one_disk(self):
        disk = Disk(40)
        first, second = Files(disk), Files(disk)
        first.make_folder("/a")
        second.make_file("/a/b")
        first.write("/a/b", [5])
        self.same([5], second.read("/a/b"))
        second.rename("/a/b", "/c")
        self.same(first.tree(), second.tree())
        self.same([("/a", "folder", 1, None), ("/c", "file", 2, [5])], first.tree())


class PathTest(WardCase):
    def test_paths(self):
        files = files_of("/a", "/z", "/abcdef", "/f/", "/f/a", "/f/g/", "/f/g/zzzzzz")
        for path in ("/", "/a", "/z", "/abcdef", "/f", "/f/a", "/f/g", "/f/g/zzzzzz"):
            self.assertIs(True, path in files)
            self.assertIn(files.kind(path), ("file", "folder"))
        for path in ("/b", "/a/a", "/f/g/h", "/f/g/h/i", "/" + "/".join("a" * 16), "/abcde", "/" + "/".join(["abcdef"] * 16)):
            self.assertIs(False, path in files)
            self.assertIs(None, files.kind(path))
        for x in NO_PATHS + ANYTHING:
            self.assertIs(False, x in files, x)

    def test_a_path_of_15_names(self):
        files, path = files_of(), ""
        for _ in range(15):
            path += "/abcdef"
            files.make_folder(path)
        self.same(path, files.tree()[-1][0])
        self.same(0, files.nodes_left())
        files.erase(path)
        files.make_file(path)
        files.write(path, [7])
        self.same([7], files.read(path))

    def test_arguments_are_asked(self):
        for files in (files_of(), files_of("/a", "/b/", blocks=25), files_of("/a", "/b/")):
            for path in ("/a", "/b", "/c", "/"):
                for name in ("make_file", "make_folder", "erase", "read", "listing", "kind", "links"):
                    self.refused(getattr(files, name), {"path": path}, {"path": NO_PATHS}, lambda: seen(files))
                for name in ("link", "rename"):
                    right = {"path": path, "new": path}
                    self.refused(getattr(files, name), right, {"path": NO_PATHS, "new": NO_PATHS}, lambda: seen(files))
            wrong = {"path": NO_PATHS, "words": no_words_of(0, 40)}
            self.refused(files.write, {"path": "/", "words": []}, wrong, lambda: seen(files))
            self.refused(files.write, {"path": "/nil", "words": [1]}, wrong, lambda: seen(files))

    def test_names_of_parameters(self):
        files = files_of()
        self.assertIsNone(files.make_folder(path="/a"))
        self.assertIsNone(files.make_file(path="/b"))
        self.assertIsNone(files.write(path="/b", words=[1]))
        self.assertIsNone(files.link(path="/b", new="/a/c"))
        self.assertIsNone(files.rename(path="/b", new="/d"))
        self.assertIsNone(files.erase(path="/d"))
        told = (files.read(path="/a/c"), files.listing(path="/a"), files.kind(path="/a"), files.links(path="/a/c"))
        self.same(([1], ["c"], "folder", 1), told)


class ImageTest(WardCase):
    """[63] and [64] in words that are written out."""

    def test_a_new_file_and_its_words(self):
        files = files_of(blocks=30)
        files.make_file("/abcdef")
        image = [list(BLANK) for _ in range(30)]
        image[8] = [0, 0, 1, 24, 0, 0, 0, 0]
        image[9] = [1, 1, 0, 0, 0, 0, 0, 0]
        image[24] = [729 + 54 + 3, 729 * 4 + 27 * 5 + 6, 1, 0, 0, 0, 0, 0]
        image[1:4] = [image[8], image[9], image[24]]
        self.same((image, 8), seen(files))
        files.write("/abcdef", list(range(1, 18)))
        image[9] = [1, 1, 17, 25, 26, 27, 0, 0]
        image[25:28] = [list(range(1, 9)), list(range(9, 17)), [17] + [0] * 7]
        image[1:5] = [image[9], *image[25:28]]
        self.same((image, 18), seen(files))
        # It shrinks: the first blocks are kept, and the words of the others stay.
        files.write("/abcdef", [1, 2, 3])
        image[9] = [1, 1, 3, 25, 0, 0, 0, 0]
        image[25] = [1, 2, 3, 0, 0, 0, 0, 0]
        image[1:3] = [image[9], image[25]]
        self.same((image, 24), seen(files))
        # It grows again: the new block has the right words already, so it is not written.
        files.write("/abcdef", [1, 2, 3, 0, 0, 0, 0, 0, *range(9, 17)])
        image[9] = [1, 1, 16, 25, 26, 0, 0, 0]
        image[1] = image[9]
        self.same((image, 28), seen(files))
        # The words that the file has: no write at all.
        files.write("/abcdef", files.read("/abcdef"))
        self.same((image, 28), seen(files))
        files.erase("/abcdef")
        image[8] = BLANK
        image[9] = BLANK
        image[1:3] = [BLANK, BLANK]
        self.same((image, 34), seen(files))

    def test_the_last_entry_moves_into_the_gap(self):
        files = files_of("/a", "/b", "/c", "/d", "/e", blocks=40)
        a, b, c, d, e = [[729 * k, 0, k, 0] for k in range(1, 6)]
        self.same([a + b, c + d, e + [0] * 4], image_of(files)[24:27])
        files.erase("/b")
        # The last block is no longer needed: its words stay.
        self.same([[0, 0, 4, 24, 25, 0, 0, 0], a + e, c + d, e + [0] * 4],
                  [image_of(files)[8], *image_of(files)[24:27]])
        files.erase("/d")
        self.same([[0, 0, 3, 24, 25, 0, 0, 0], a + e, c + [0] * 4, e + [0] * 4],
                  [image_of(files)[8], *image_of(files)[24:27]])
        files.erase("/a")
        self.same([[0, 0, 2, 24, 0, 0, 0, 0], c + e, c + [0] * 4], [image_of(files)[8], *image_of(files)[24:26]])
        files.make_file("/f")
        self.same([[0, 0, 3, 24, 25, 0, 0, 0], c + e, [729 * 6, 0, 1, 0, 0, 0, 0, 0]],
                  [image_of(files)[8], *image_of(files)[24:26]])

    def test_rename(self):
        files = files_of("/a", "/b", "/c", "/g/", blocks=40)
        a, b, c, g = [[729 * k, 0, node, 0] for k, node in ((1, 1), (2, 2), (3, 3), (7, 4))]
        # Within one folder only the name changes.
        files.rename("/b", "/zz")
        zz = [729 * 26 + 27 * 26, 0, 2, 0]
        self.same([a + zz, c + g], image_of(files)[24:26])
        self.same(4 * 8 + 4, files._disk.writes)
        files.rename("/a", "/g/x")
        x = [729 * 24, 0, 1, 0]
        self.same([g + zz, c + [0] * 4, x + [0] * 4], image_of(files)[24:27])
        self.same([[0, 0, 3, 24, 25, 0, 0, 0], [0, 1, 1, 26, 0, 0, 0, 0]], [image_of(files)[8], image_of(files)[12]])

    def test_a_freed_block_is_not_free_for_the_deed(self):
        # 24 is of the root folder, 25 of /f; one entry moves from /f, so that 25 becomes free, to /g, which needs one.
        files = files_of("/f/", "/g/", "/f/a", blocks=40)
        self.same([0, 1, 1, 25, 0, 0, 0, 0], image_of(files)[9])
        files.rename("/f/a", "/g/a")
        self.same([[0, 1, 0, 0, 0, 0, 0, 0], [0, 1, 1, 26, 0, 0, 0, 0]], image_of(files)[9:11])

    def test_links(self):
        files = files_of("/a", "/f/")
        files.write("/a", [1])
        files.link("/a", "/f/b")
        files.link("/f/b", "/c")
        self.same([3, 3, 3, 1, 0], [files.links(path) for path in ("/a", "/f/b", "/c", "/f", "/")])
        self.same([1, 3, 1], image_of(files)[9][:3])
        files.write("/c", [2, 3])
        self.same([[2, 3]] * 3, [files.read(path) for path in ("/a", "/f/b", "/c")])
        self.same([("/a", "file", 1, [2, 3]), ("/c", "file", 1, [2, 3]), ("/f", "folder", 2, None),
                   ("/f/b", "file", 1, [2, 3])], files.tree())
        files.erase("/a")
        self.same((2, [2, 3]), (files.links("/c"), files.read("/f/b")))
        files.erase("/f/b")
        self.same(13, files.nodes_left())
        files.erase("/c")
        self.same((14, BLANK), (files.nodes_left(), image_of(files)[9]))


class ModelTest(WardCase):
    def questions(self, model, files):
        image = image_of(files)
        self.same((model.image(), model.writes), (image, files._disk.writes))
        self.assertIs(True, is_sound(image))
        self.same(model.tree(), files.tree())
        self.same((len(model.free_blocks()), len(model.free_nodes())), (files.blocks_left(), files.nodes_left()))
        for path in ["/"] + model.paths():
            node = model.node(path)
            self.same((True, node.kind, node.links), (path in files, files.kind(path), files.links(path)))
            if node.kind == "file":
                self.same(node.holds, files.read(path))
                self.raised(WrongState, {"what": path}, files.listing, path)
            else:
                self.same(sorted(name for name, below in node.holds), files.listing(path))
                self.raised(WrongState, {"what": path}, files.read, path)

    def test_random_deeds_agree_with_a_model(self):
        told = {}
        for seed in range(60):
            chance = random.Random(seed)
            blocks = chance.choice([25, 26, 28, 30, 40, 64])
            model, files = Model(blocks), Files(Disk(blocks))
            deeds = list(crowd()) if seed % 3 == 0 and blocks > 30 else []
            for at in range(60):
                deed = deeds[at] if at < len(deeds) else random_deed(chance, model)
                due = model.due(*deed)
                what = due[0][1] if due and due[0][0] is Full else ""
                key = (deed[0], due[0][0].__name__ + what if due else "")
                told[key] = told.get(key, 0) + 1
                if due:
                    self.raised(due[0][0], {"what": due[0][1]}, getattr(files, deed[0]), *deed[1:])
                    self.same((model.image(), model.writes), seen(files))
                else:
                    self.assertIsNone(getattr(files, deed[0])(*deed[1:]))
                    model.do(*deed)
                    self.questions(model, files)
        for key in (("make_file", "Fullnodes"), ("link", "Fullfolder"), ("write", "Fullblocks"), ("link", "Fullblocks"),
                    ("erase", "WrongState"), ("rename", "WrongState"), ("link", "Taken"), ("write", "Unknown")):
            self.assertGreater(told.get(key, 0), 0, told)

    def test_lists_are_neither_kept_nor_handed_out(self):
        files, words = files_of("/a", "/f/"), [1, 2]
        files.write("/a", words)
        words[0] = 9
        words.clear()
        before = seen(files)
        for told in (files.read("/a"), files.listing("/"), files.tree()[0][3], files.tree()):
            told.clear()
        self.same(before, seen(files))
        self.same([1, 2], files.read("/a"))


if __name__ == "__main__":
    unittest.main()
