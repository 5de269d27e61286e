"""The errors of deeds and questions, [61], and which of two that are due at once goes first, [5]."""

import copy
import unittest

from tests.cases import WardCase
from tests.filing import Model
from wardwork.disk import Disk
from wardwork.errors import BadArgument, Full, Stopped, Taken, Unknown, WrongState
from wardwork.files import Files

LETTERS = "abcdefghij"
CANDIDATES = ["/", "/a", "/f", "/nil", "/f/a", "/f/nil", "/f/g", "/f/g/x", "/nil/x", "/a/x", "/full", "/full/a",
              "/full/nil", "/f/g/x/y", "/even", "/even/nil"]


def plain():
    yield from [("make_folder", "/f"), ("make_file", "/a"), ("make_file", "/f/a"), ("make_folder", "/f/g")]


def full_folder():
    yield from plain()
    yield ("make_folder", "/full")
    for sign in LETTERS:
        yield ("link", "/a", "/full/" + sign)


def no_nodes():
    yield from plain()
    for sign in LETTERS:
        yield ("make_file", "/f/g/" + sign)
    yield ("make_file", "/last")


def no_nodes_and_a_full_folder():
    yield from full_folder()
    for at in range(10):
        yield ("make_file", "/f/g/" + LETTERS[at])


def no_blocks():
    """A root folder and a folder `/even` that need a block for their next entry."""
    yield from full_folder()
    yield ("make_folder", "/even")
    yield ("make_file", "/x")
    yield ("write", "/x", [1] * 40)
    yield ("make_file", "/f/g/c")
    yield ("make_file", "/f/g/d")


def nothing_left():
    yield from no_blocks()
    for sign in "efgh":
        yield ("make_file", "/f/g/" + sign)
    yield ("make_file", "/f/g/i")
    yield ("make_file", "/f/g/j")


# Each state with the data blocks that the disk has for it.
STATES = [(plain, 40), (full_folder, 40), (no_nodes, 40), (no_nodes_and_a_full_folder, 40), (no_blocks, None),
          (nothing_left, None), (full_folder, None), (no_nodes, None)]
# For each deed the pairs of errors of one state that must have been due at once.
PAIRS = {
    "make_file": ["Unknown Full nodes", "Taken Full nodes", "Taken Full folder", "Taken Full blocks",
                  "Full nodes Full folder", "Full nodes Full blocks", "Full folder Full blocks"],
    "make_folder": ["Unknown Full nodes", "Taken Full nodes", "Taken Full folder", "Taken Full blocks",
                    "Full nodes Full folder", "Full nodes Full blocks", "Full folder Full blocks"],
    "write": [],
    "erase": [],
    "link": ["Unknown path Unknown new", "Unknown path Taken", "Unknown path Full folder", "Unknown path Full blocks",
             "Unknown new WrongState", "Taken WrongState", "Taken Full folder", "Taken Full blocks",
             "WrongState Full folder", "WrongState Full blocks", "Full folder Full blocks"],
    "rename": ["Unknown path Unknown new", "Unknown path Taken", "Unknown path Full folder", "Unknown path Full blocks",
               "Unknown new WrongState", "Taken WrongState", "Taken Full folder", "Taken Full blocks",
               "WrongState Full folder", "WrongState Full blocks", "Full folder Full blocks"],
}


def state_of(deeds, blocks):
    """Files and a model with these deeds done, on a disk with as many blocks, or with no more than they need."""
    if blocks is None:
        model = Model(64)
        for deed in deeds():
            model.do(*deed)
        blocks = 64 - len(model.free_blocks())
    model, files = Model(blocks), Files(Disk(blocks))
    for deed in deeds():
        model.do(*deed)
        getattr(files, deed[0])(*deed[1:])
    return model, files


def calls():
    for path in CANDIDATES:
        for deed in ("make_file", "make_folder", "erase"):
            yield (deed, path)
        for many in (0, 8, 9, 40):
            yield ("write", path, [many + 1] * many)
        for new in CANDIDATES:
            yield ("link", path, new)
            yield ("rename", path, new)


def name_of(error, call):
    """How PAIRS writes an error."""
    name = error[0].__name__
    if error[0] is Full:
        return name + " " + error[1]
    if error[0] is Unknown and call[0] in ("link", "rename"):
        return name + (" new" if error[1] == call[2] != call[1] else " path")
    return name


class DueTest(WardCase):
    def test_every_call_in_every_state(self):
        told = {deed: set() for deed in PAIRS}
        for deeds, blocks in STATES:
            model, files = state_of(deeds, blocks)
            before = (model.image(), model.writes)
            for call in calls():
                due = model.due(*call)
                names = [name_of(error, call) for error in due]
                told[call[0]].update(one + " " + two for at, one in enumerate(names) for two in names[at + 1:])
                with self.subTest(state=deeds.__name__, call=call, due=names):
                    self.check(model, files, call, due)
                    self.same(before, (files._disk.image(), files._disk.writes))
        for deed, pairs in PAIRS.items():
            self.assertEqual(set(), set(pairs) - told[deed], deed)

    def check(self, model, files, call, due):
        image = files._disk.image()
        if due:
            self.raised(due[0][0], {"what": due[0][1]}, getattr(files, call[0]), *call[1:])
            # It goes ahead of Stopped, too.
            stopped = Files(Disk.loaded(image, stop=0))
            self.raised(due[0][0], {"what": due[0][1]}, getattr(stopped, call[0]), *call[1:])
            return
        other, after = Files(Disk.loaded(image)), copy.deepcopy(model)
        self.assertIsNone(getattr(other, call[0])(*call[1:]))
        count = after.do(*call)
        self.same((after.image(), 2 * count + 2 if count else 0), (other._disk.image(), other._disk.writes))
        stopped = Files(Disk.loaded(image, stop=0))
        if count:
            self.raised(Stopped, {"done": 0}, getattr(stopped, call[0]), *call[1:])
        else:
            getattr(stopped, call[0])(*call[1:])
        self.same(image, stopped._disk.image())


class WrittenOutTest(WardCase):
    """The errors of [61] in words that are written out, without the model."""

    def setUp(self):
        self.files = state_of(full_folder, 60)[1]

    def test_unknown(self):
        files = self.files
        for call in ((files.write, "/nil", []), (files.link, "/nil", "/x"), (files.erase, "/nil"), (files.read, "/nil"),
                     (files.rename, "/nil", "/x"), (files.rename, "/nil", "/nil"), (files.listing, "/nil"),
                     (files.links, "/nil"), (files.link, "/nil", "/nil")):
            self.raised(Unknown, {"what": "/nil"}, *call)
        for call in ((files.make_file, "/nil/x"), (files.make_folder, "/nil/x"), (files.link, "/a", "/nil/x"),
                     (files.rename, "/a", "/nil/x"), (files.link, "/f", "/nil/x"), (files.rename, "/", "/nil/x")):
            self.raised(Unknown, {"what": "/nil/x"}, *call)
        # A file is no folder for what would be made.
        for call in ((files.make_file, "/a/x"), (files.link, "/f/a", "/a/x"), (files.rename, "/a", "/a/x")):
            self.raised(Unknown, {"what": "/a/x"}, *call)
        self.raised(Unknown, {"what": "/a/x"}, files.read, "/a/x")

    def test_taken(self):
        files = self.files
        for path in ("/", "/a", "/f", "/f/g", "/full/a"):
            for call in ((files.make_file, path), (files.make_folder, path), (files.link, "/a", path),
                         (files.rename, path, path), (files.rename, "/f/a", path), (files.link, "/f", path)):
                self.raised(Taken, {"what": path}, *call)
        # Into itself, where something is: Taken goes ahead of WrongState.
        self.raised(Taken, {"what": "/f/g"}, files.rename, "/f", "/f/g")

    def test_wrong_state(self):
        files = self.files
        for path in ("/", "/f", "/f/g", "/full"):
            for call in ((files.write, path, [1]), (files.read, path), (files.link, path, "/x")):
                self.raised(WrongState, {"what": path}, *call)
        for path in ("/a", "/f/a", "/full/c"):
            self.raised(WrongState, {"what": path}, files.listing, path)
        for path in ("/", "/f", "/full"):
            self.raised(WrongState, {"what": path}, files.erase, path)
        self.raised(WrongState, {"what": "/"}, files.rename, "/", "/x")
        self.raised(WrongState, {"what": "/"}, files.rename, "/", "/full/x")
        self.raised(WrongState, {"what": "/f"}, files.rename, "/f", "/f/x")
        self.raised(WrongState, {"what": "/f"}, files.rename, "/f", "/f/g/x")
        self.raised(WrongState, {"what": "/full"}, files.rename, "/full", "/full/x")
        # A name that begins alike is not within the folder.
        files.rename("/f", "/ff")
        self.same(["a", "g"], files.listing("/ff"))

    def test_full(self):
        files = self.files
        for call in ((files.make_file, "/full/x"), (files.make_folder, "/full/x"), (files.link, "/a", "/full/x"),
                     (files.rename, "/a", "/full/x"), (files.rename, "/f", "/full/x")):
            self.raised(Full, {"what": "folder"}, *call)
        files.rename("/full/c", "/full/x")
        self.same(["a", "b", "d", "e", "f", "g", "h", "i", "j", "x"], files.listing("/full"))
        files = state_of(no_nodes, 60)[1]
        for call in ((files.make_file, "/x"), (files.make_folder, "/f/x"), (files.make_file, "/f/g/x")):
            self.raised(Full, {"what": "nodes"}, *call)
        files.link("/a", "/x")

    def test_as_many_blocks_as_are_free(self):
        for free in range(6):
            files = Files(Disk(25 + free))
            files.make_file("/a")
            self.assertEqual(free, files.blocks_left())
            for many in range(41):
                other = Files(Disk.loaded(files._disk.image()))
                if many > 8 * free:
                    self.raised(Full, {"what": "blocks"}, other.write, "/a", [1] * many)
                    self.same(files._disk.image(), other._disk.image())
                else:
                    other.write("/a", [1] * many)
                    self.same(([1] * many, free - (many + 7) // 8), (other.read("/a"), other.blocks_left()))
        # Only the further blocks must be free.
        files = Files(Disk(27))
        files.make_file("/a")
        files.write("/a", [1] * 9)
        self.same(0, files.blocks_left())
        files.write("/a", [2] * 16)
        self.raised(Full, {"what": "blocks"}, files.write, "/a", [2] * 17)

    def test_wrong_arguments_go_first(self):
        files = self.files
        self.raised(BadArgument, {"name": "new"}, files.link, "/nil", "x")
        self.raised(BadArgument, {"name": "path"}, files.rename, "nil", "x")
        self.raised(BadArgument, {"name": "words"}, files.write, "/f", [65536])
        self.raised(BadArgument, {"name": "words"}, files.write, "/nil", [0] * 41)


if __name__ == "__main__":
    unittest.main()
