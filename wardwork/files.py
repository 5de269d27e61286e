"""Files and folders on a disk. Each deed is one commit of the journal."""

from wardwork.checks import ask_words
from wardwork.errors import BadArgument, Full, Taken, Unknown, WrongState
from wardwork.journal import FIRST_HOME, commit, recover
from wardwork.nodes import (
    FILE, FIRST_DATA, FIRST_NODE, FOLDER, entries_of, find_node, free_blocks, free_nodes, is_folder, node_words,
    put_entries, put_words, words_of)
from wardwork.paths import ask_path, is_path, last_name_of, parent_of


class Files:
    """The files and folders of a disk. It keeps nothing of the image: each call reads the disk."""

    WORDS = 40
    ENTRIES = 10
    NODES = 16

    def __init__(self, disk):
        if len(disk.image()) <= FIRST_DATA:
            raise BadArgument("disk")
        recover(disk)
        self._disk = disk

    def make_file(self, path):
        self._make(path, FILE)

    def make_folder(self, path):
        self._make(path, FOLDER)

    def write(self, path, words):
        ask_path("path", path)
        ask_words("words", words, 0, self.WORDS)
        image = self._disk.image()
        node = _ask_node(image, path)
        _ask_file(image, node, path)
        put_words(image, node, words, free_blocks(image))
        self._commit(image)

    def link(self, path, new):
        ask_path("path", path)
        ask_path("new", new)
        image = self._disk.image()
        node = _ask_node(image, path)
        folder = _ask_place(image, new)
        _ask_file(image, node, path)
        self._ask_entry(image, folder)
        image[FIRST_NODE + node][1] += 1
        _add_entry(image, folder, (last_name_of(new), node), free_blocks(image))
        self._commit(image)

    def erase(self, path):
        ask_path("path", path)
        image = self._disk.image()
        node = _ask_node(image, path)
        if node == 0 or (is_folder(image, node) and words_of(image, node)):
            raise WrongState(path)
        _take_entry(image, path)
        image[FIRST_NODE + node][1] -= 1
        if image[FIRST_NODE + node][1] == 0:
            image[FIRST_NODE + node] = [0] * 8
        self._commit(image)

    def rename(self, path, new):
        ask_path("path", path)
        ask_path("new", new)
        image = self._disk.image()
        node = _ask_node(image, path)
        folder = _ask_place(image, new)
        if node == 0 or new.startswith(path + "/"):
            raise WrongState(path)
        if parent_of(path) == parent_of(new):
            _change_name(image, folder, last_name_of(path), last_name_of(new))
        else:
            self._ask_entry(image, folder)
            # What becomes free by the deed is not free for it.
            free = free_blocks(image)
            _take_entry(image, path)
            _add_entry(image, folder, (last_name_of(new), node), free)
        self._commit(image)

    def read(self, path):
        ask_path("path", path)
        image = self._disk.image()
        node = _ask_node(image, path)
        _ask_file(image, node, path)
        return words_of(image, node)

    def listing(self, path):
        ask_path("path", path)
        image = self._disk.image()
        node = _ask_node(image, path)
        if not is_folder(image, node):
            raise WrongState(path)
        return sorted([name for name, below in entries_of(image, node)])

    def kind(self, path):
        ask_path("path", path)
        image = self._disk.image()
        node = find_node(image, path)
        return None if node is None else _kind_of(image, node)

    def links(self, path):
        ask_path("path", path)
        image = self._disk.image()
        return node_words(image, _ask_node(image, path))[1]

    def tree(self):
        image = self._disk.image()
        rows = []
        waiting = [("", 0)]
        while waiting:
            path, folder = waiting.pop()
            for name, node in entries_of(image, folder):
                below = path + "/" + name
                if is_folder(image, node):
                    waiting.append((below, node))
                words = None if is_folder(image, node) else words_of(image, node)
                rows.append((below, _kind_of(image, node), node, words))
        # No two rows have one path, so the paths alone decide the order.
        return sorted(rows)

    def blocks_left(self):
        return len(free_blocks(self._disk.image()))

    def nodes_left(self):
        return len(free_nodes(self._disk.image()))

    def __contains__(self, x):
        return is_path(x) and find_node(self._disk.image(), x) is not None

    def _make(self, path, kind):
        ask_path("path", path)
        image = self._disk.image()
        folder = _ask_place(image, path)
        nodes = free_nodes(image)
        if not nodes:
            raise Full("nodes")
        self._ask_entry(image, folder)
        image[FIRST_NODE + nodes[0]] = [kind, 1, 0, 0, 0, 0, 0, 0]
        _add_entry(image, folder, (last_name_of(path), nodes[0]), free_blocks(image))
        self._commit(image)

    def _ask_entry(self, image, folder):
        """Asks that the folder has room for one entry more."""
        if len(entries_of(image, folder)) == self.ENTRIES:
            raise Full("folder")

    def _commit(self, image):
        """Writes the home blocks that differ on the disk, as one deed."""
        before = self._disk.image()
        blocks = range(FIRST_HOME, len(image))
        commit(self._disk, [(block, image[block]) for block in blocks if image[block] != before[block]])


def _ask_node(image, path):
    """The node at the path, which must be there."""
    node = find_node(image, path)
    if node is None:
        raise Unknown(path)
    return node


def _ask_place(image, path):
    """The folder that would get the path, which must not be there yet."""
    folder = find_node(image, parent_of(path))
    if folder is None or not is_folder(image, folder):
        raise Unknown(path)
    if find_node(image, path) is not None:
        raise Taken(path)
    return folder


def _ask_file(image, node, path):
    if is_folder(image, node):
        raise WrongState(path)


def _kind_of(image, node):
    return "folder" if is_folder(image, node) else "file"


def _add_entry(image, folder, entry, free):
    put_entries(image, folder, [*entries_of(image, folder), entry], free)


def _take_entry(image, path):
    """Takes the entry of the path away; the last entry of its folder moves into the gap."""
    folder = find_node(image, parent_of(path))
    entries = entries_of(image, folder)
    names = [name for name, node in entries]
    last = entries.pop()
    gap = names.index(last_name_of(path))
    if gap < len(entries):
        entries[gap] = last
    put_entries(image, folder, entries, [])


def _change_name(image, folder, old, new):
    entries = [(new if name == old else name, node) for name, node in entries_of(image, folder)]
    put_entries(image, folder, entries, [])
