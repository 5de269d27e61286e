"""A model of files and folders for the tests: nodes are objects, and the image is made of them anew each time."""

import copy

from wardwork.errors import Full, Taken, Unknown, WrongState

RANKS = [Unknown, Taken, WrongState, Full]


class Node:
    def __init__(self, kind):
        self.kind = kind
        self.links = 1
        # The words of a file; the lists [name, number of the node] of a folder.
        self.holds = []
        self.blocks = []

    def words(self):
        if self.kind == "file":
            return list(self.holds)
        return [word for name, number in self.holds for word in (*coded(name), number, 0)]

    def needs(self, more=0):
        per_block = 8 if self.kind == "file" else 2
        return -(-(len(self.holds) + more) // per_block)


def coded(name):
    digits = [ord(sign) - 96 for sign in name] + [0] * 6
    return (digits[0] * 729 + digits[1] * 27 + digits[2], digits[3] * 729 + digits[4] * 27 + digits[5])


def parent_of(path):
    return path[:path.rindex("/")] or "/"


def last_of(path):
    return path[path.rindex("/") + 1:]


class Model:
    """Does what [60] to [64] tell, for paths and words of the told kinds."""

    def __init__(self, blocks):
        self.nodes = [Node("folder")] + [None] * 15
        self.nodes[0].links = 0
        self.data = {block: [0] * 8 for block in range(24, blocks)}
        self.log = [[0] * 8 for _ in range(7)]
        self.writes = 0

    def at(self, path):
        """The number of the node at a path, or None."""
        number = 0
        for name in [part for part in path.split("/") if part]:
            node = self.nodes[number]
            found = [below for other, below in node.holds if other == name] if node.kind == "folder" else []
            if not found:
                return None
            number = found[0]
        return number

    def node(self, path):
        number = self.at(path)
        return None if number is None else self.nodes[number]

    def image(self):
        image = [[0] * 8] + copy.deepcopy(self.log)
        for node in self.nodes:
            if node is None:
                image.append([0] * 8)
            else:
                pointers = node.blocks + [0] * (5 - len(node.blocks))
                image.append([0 if node.kind == "folder" else 1, node.links, len(node.holds)] + pointers)
        return image + [list(self.data[block]) for block in sorted(self.data)]

    def free_nodes(self):
        return [number for number, node in enumerate(self.nodes) if node is None]

    def free_blocks(self):
        used = [block for node in self.nodes if node for block in node.blocks]
        return [block for block in sorted(self.data) if block not in used]

    def due(self, deed, path, other=None):
        """All errors that are due for a deed, as pairs of a class and its `what`, in the order of [61]."""
        made = {"make_file": path, "make_folder": path, "link": other, "rename": other}.get(deed)
        node = None if made == path and deed.startswith("make") else self.node(path)
        errors = []
        if not deed.startswith("make") and node is None:
            errors.append((Unknown, path))
        folder = None
        if made is not None:
            folder = self.node(parent_of(made)) if made != "/" else None
            if made != "/" and (folder is None or folder.kind != "folder"):
                errors.append((Unknown, made))
                folder = None
            if self.at(made) is not None:
                errors.append((Taken, made))
        if self.wrong_state(deed, path, node, other):
            errors.append((WrongState, path))
        if deed.startswith("make") and not self.free_nodes():
            errors.append((Full, "nodes"))
        grows = folder is not None and not (deed == "rename" and node and path != "/"
                                            and parent_of(path) == parent_of(made))
        if grows and len(folder.holds) == 10:
            errors.append((Full, "folder"))
        needed = 0
        if grows:
            needed = folder.needs(1) - len(folder.blocks)
        elif deed == "write" and node and node.kind == "file":
            needed = -(-len(other) // 8) - len(node.blocks)
        if needed > len(self.free_blocks()):
            errors.append((Full, "blocks"))
        return sorted(errors, key=lambda error: RANKS.index(error[0]))

    def wrong_state(self, deed, path, node, other):
        if node is None:
            return False
        if deed == "rename":
            return path == "/" or other.startswith(path + "/")
        if deed == "erase":
            return path == "/" or (node.kind == "folder" and len(node.holds) > 0)
        return deed in ("write", "link", "read") and node.kind == "folder"

    def do(self, deed, path, other=None):
        """Does a deed for which no error is due; returns the number of blocks that it changes."""
        before, free = self.image(), self.free_blocks()
        if deed.startswith("make"):
            number = self.free_nodes()[0]
            self.nodes[number] = Node("file" if deed == "make_file" else "folder")
            self.add(path, number, free)
        elif deed == "write":
            node = self.node(path)
            node.holds = list(other)
            self.settle(node, free)
        elif deed == "link":
            self.node(path).links += 1
            self.add(other, self.at(path), free)
        elif deed == "erase":
            self.erase(path)
        elif parent_of(path) == parent_of(other):
            folder = self.node(parent_of(path))
            folder.holds = [[last_of(other) if name == last_of(path) else name, below] for name, below in folder.holds]
            self.settle(folder, free)
        else:
            number = self.at(path)
            self.take(path)
            self.add(other, number, free)
        return self.commit(before)

    def add(self, path, number, free):
        folder = self.node(parent_of(path))
        folder.holds.append([last_of(path), number])
        self.settle(folder, free)

    def take(self, path):
        folder = self.node(parent_of(path))
        gap = [name for name, below in folder.holds].index(last_of(path))
        folder.holds[gap] = folder.holds[-1]
        folder.holds.pop()
        self.settle(folder, [])

    def erase(self, path):
        number = self.at(path)
        self.take(path)
        self.nodes[number].links -= 1
        if self.nodes[number].links == 0:
            self.nodes[number] = None

    def settle(self, node, free):
        """Gives the node the data blocks that it needs and writes its words into them."""
        free = list(free)
        while len(node.blocks) < node.needs():
            node.blocks.append(free.pop(0))
        del node.blocks[node.needs():]
        words = node.words() + [0] * 8
        for at, block in enumerate(node.blocks):
            self.data[block] = words[8 * at:8 * at + 8]

    def commit(self, before):
        after = self.image()
        changed = [words for block, words in enumerate(after) if block >= 8 and words != before[block]]
        self.log[:len(changed)] = changed
        self.writes += 2 * len(changed) + 2 if changed else 0
        return len(changed)

    def paths(self, path="", number=0):
        """The paths at which something is, but `/`."""
        found = []
        for name, below in self.nodes[number].holds:
            found.append(path + "/" + name)
            if self.nodes[below].kind == "folder":
                found.extend(self.paths(path + "/" + name, below))
        return found

    def tree(self):
        rows = []
        for path in sorted(self.paths()):
            node = self.node(path)
            rows.append((path, node.kind, self.at(path), list(node.holds) if node.kind == "file" else None))
        return rows


NAMES = ["a", "b", "c", "zz", "abc", "abcd", "zzzzz", "zzzzzz", "qwerty", "aaaaaa", "az", "ba"]


def random_deed(chance, model, names=NAMES):
    """A deed as a tuple of the method's name and its arguments; errors may be due."""
    paths = ["/"] + model.paths()
    folders = [path for path in paths if model.node(path).kind == "folder"]
    files = [path for path in paths if model.node(path).kind == "file"]

    def some_path():
        if chance.randrange(12) == 0:
            return chance.choice(paths) .rstrip("/") + "/" + chance.choice(names)
        return chance.choice(paths)

    def new_path():
        if chance.randrange(12) == 0:
            return some_path()
        return chance.choice(folders).rstrip("/") + "/" + chance.choice(names)

    def file_path():
        return chance.choice(files) if files and chance.randrange(8) else some_path()

    deed = chance.choice(["make_file"] * 5 + ["make_folder"] * 3 + ["write"] * 6 + ["link"] * 3 + ["erase"] * 3
                         + ["rename"] * 5)
    if deed.startswith("make"):
        return (deed, new_path())
    if deed == "write":
        many = chance.choice([0, 1, 7, 8, 9, 16, 17, 24, 32, 33, 39, 40])
        return (deed, file_path(), [chance.choice([0, 1, 65535, chance.randrange(65536)]) for _ in range(many)])
    if deed == "link":
        return (deed, file_path(), new_path())
    if deed == "erase":
        return (deed, some_path())
    return (deed, some_path(), new_path())
