"""The image of files and folders: its nodes, their data blocks, and the entries of folders."""

from wardwork.checks import LETTERS
from wardwork.errors import Full
from wardwork.paths import is_name, names_of

FIRST_NODE = 8
FIRST_DATA = 24
# The kinds of nodes.
FOLDER = 0
FILE = 1

_FREE = [0, 0, 0, 0, 0, 0, 0, 0]


def code_of_name(name):
    """The two words high and low of a name."""
    digits = [LETTERS.index(sign) + 1 for sign in name] + [0] * (6 - len(name))
    halves = [729 * first + 27 * second + third for first, second, third in (digits[:3], digits[3:])]
    return tuple(halves)


def name_of_code(high, low):
    """The name with this code, or None if no name has it."""
    digits = [digit for half in (high, low) for digit in (half // 729, half // 27 % 27, half % 27)]
    name = "".join([LETTERS[digit - 1] for digit in digits if 1 <= digit <= 26])
    # Other digits than those of a name, a 0 ahead of a letter too, are lost on the way back.
    return name if is_name(name) and code_of_name(name) == (high, low) else None


def node_words(image, node):
    return image[FIRST_NODE + node]


def is_folder(image, node):
    return node_words(image, node)[0] == FOLDER


def is_free_node(image, node):
    return node != 0 and node_words(image, node) == _FREE


def free_nodes(image):
    return [node for node in range(FIRST_DATA - FIRST_NODE) if is_free_node(image, node)]


def pointers_of(image, node):
    """The data blocks of a node in their order."""
    return [block for block in node_words(image, node)[3:] if block > 0]


def free_blocks(image):
    used = [block for node in range(FIRST_DATA - FIRST_NODE) for block in pointers_of(image, node)]
    return [block for block in range(FIRST_DATA, len(image)) if block not in used]


def length_of(kind, size):
    """How many words a node of this kind and size holds; an entry has four."""
    return size if kind == FILE else 4 * size


def blocks_for(length):
    return (length + 7) // 8


def data_of(image, node):
    """All words in the data blocks of a node, also those that hold nothing."""
    return [word for block in pointers_of(image, node) for word in image[block]]


def words_of(image, node):
    """The words that a node holds."""
    kind, links, size = node_words(image, node)[:3]
    return data_of(image, node)[:length_of(kind, size)]


def entry_rows(image, node):
    """The four words of each entry of a folder."""
    words = words_of(image, node)
    return [words[at:at + 4] for at in range(0, len(words), 4)]


def entries_of(image, node):
    """The pairs of a name and a node in a folder, in the order of the entries."""
    return [(name_of_code(row[0], row[1]), row[2]) for row in entry_rows(image, node)]


def find_node(image, path):
    """The number of the node at this path, or None if nothing is there."""
    node = 0
    for name in names_of(path):
        entries = entries_of(image, node) if is_folder(image, node) else []
        found = [below for other, below in entries if other == name]
        if not found:
            return None
        node = found[0]
    return node


def put_words(image, node, words, free):
    """Lets a node hold these words; it keeps its first data blocks, and further ones are those of the list `free`."""
    kind, links = node_words(image, node)[:2]
    needed = blocks_for(len(words))
    blocks = (pointers_of(image, node) + free)[:needed]
    if len(blocks) < needed:
        raise Full("blocks")
    for at, block in enumerate(blocks):
        part = words[8 * at:8 * at + 8]
        image[block] = part + [0] * (8 - len(part))
    size = len(words) if kind == FILE else len(words) // 4
    image[FIRST_NODE + node] = [kind, links, size, *blocks] + [0] * (5 - needed)


def put_entries(image, node, entries, free):
    """Lets a folder hold these entries, as put_words tells."""
    words = []
    for name, below in entries:
        words.extend([*code_of_name(name), below, 0])
    put_words(image, node, words, free)
