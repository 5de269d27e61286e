"""Judges images: whether their nodes, data blocks and entries fit together."""

from wardwork.checks import is_list_of_words
from wardwork.files import Files
from wardwork.nodes import (
    FILE, FIRST_DATA, FIRST_NODE, FOLDER, blocks_for, data_of, entry_rows, is_folder, is_free_node, length_of,
    name_of_code, node_words, pointers_of, words_of)


def is_sound(image):
    if not _is_image(image) or image[0] != [0] * 8:
        return False
    used = [node for node in range(FIRST_DATA - FIRST_NODE) if not is_free_node(image, node)]
    if not all([_is_node(image, node) for node in used]):
        return False
    blocks = [block for node in used for block in pointers_of(image, node)]
    if len(set(blocks)) < len(blocks):
        return False
    folders = [node for node in used if is_folder(image, node)]
    if not all([_has_entries(image, folder, used) for folder in folders]):
        return False
    return _has_links(image, used, folders) and _reached(image) == folders


def _is_image(x):
    return isinstance(x, list) and 25 <= len(x) <= 64 and all(is_list_of_words(words, 8, 8) for words in x)


def _is_node(image, node):
    """Tells whether kind, links, size, pointers and the words that hold nothing are right, each for itself."""
    kind, links, size, *pointers = node_words(image, node)
    if node == 0 and (kind != FOLDER or links != 0):
        return False
    if node > 0 and (kind not in (FOLDER, FILE) or links == 0):
        return False
    if size > (Files.WORDS if kind == FILE else Files.ENTRIES):
        return False
    needed = blocks_for(length_of(kind, size))
    if not all(FIRST_DATA <= block < len(image) for block in pointers[:needed]) or any(pointers[needed:]):
        return False
    return not any(data_of(image, node)[length_of(kind, size):])


def _has_entries(image, folder, used):
    """Tells whether each entry of the folder is right, and no two have one name."""
    rows = entry_rows(image, folder)
    for high, low, node, rest in rows:
        if name_of_code(high, low) is None or node == 0 or node not in used or rest != 0:
            return False
    names = [(row[0], row[1]) for row in rows]
    return len(set(names)) == len(names)


def _has_links(image, used, folders):
    """Tells whether the links of each node are the number of its entries, and a folder has one."""
    named = [row[2] for folder in folders for row in entry_rows(image, folder)]
    for node in used:
        links = node_words(image, node)[1]
        if links != named.count(node) or (node in folders and node != 0 and links != 1):
            return False
    return True


def _reached(image):
    """The ascending list of the folders that can be reached from the root folder."""
    reached = [0]
    waiting = [0]
    while waiting:
        rows = entry_rows(image, waiting.pop())
        # Each folder has one name and the root folder has none, so none is reached twice.
        below = [row[2] for row in rows if is_folder(image, row[2])]
        reached.extend(below)
        waiting.extend(below)
    return sorted(reached)
