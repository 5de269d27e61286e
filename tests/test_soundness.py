"""is_sound, [65]."""

import copy
import random
import unittest

from tests.cases import WardCase
from tests.filing import Model, coded, random_deed
from tests.test_disk import no_images
from tests.values import ANYTHING
from wardwork.disk import Disk
from wardwork.files import Files
from wardwork.soundness import is_sound

BLANK = [0] * 8
# The blocks of the nodes and the data blocks of the image that sound() makes.
ROOT, FOLDER, FILE, INNER, EMPTY = 8, 9, 10, 11, 12


def sound():
    """/f with g (a folder) and two names of the file /a, which has 17 words; /g is an empty file."""
    files = Files(Disk(40))
    files.make_folder("/f")
    files.make_file("/a")
    files.make_folder("/f/g")
    files.make_file("/g")
    files.link("/a", "/f/b")
    files.link("/a", "/f/c")
    files.write("/a", list(range(1, 18)))
    return files._disk.image()


def judged(image):
    """[65] word by word, for images of the right shape."""
    if len(image) < 25 or image[0] != BLANK:
        return False
    nodes = {n: image[8 + n] for n in range(16) if n == 0 or image[8 + n] != BLANK}
    if nodes[0][:2] != [0, 0] or any(node[0] > 1 or node[1] < 1 for n, node in nodes.items() if n):
        return False
    pointers, named = [], {}
    for n, (kind, links, size, *told) in nodes.items():
        if size > (40 if kind else 10):
            return False
        many = -(-size // (8 if kind else 2))
        if any(told[many:]) or any(not 24 <= block < len(image) for block in told[:many]):
            return False
        pointers.extend(told[:many])
        words = [word for block in told[:many] for word in image[block]]
        length = size if kind else 4 * size
        if any(words[length:]):
            return False
        if kind == 0:
            named[n] = [tuple(words[4 * e:4 * e + 4]) for e in range(size)]
    if len(set(pointers)) != len(pointers):
        return False
    return entries_are_right(nodes, named)


def entries_are_right(nodes, named):
    for entries in named.values():
        if len({entry[:2] for entry in entries}) != len(entries):
            return False
        for high, low, n, rest in entries:
            if n == 0 or n not in nodes or rest or not is_code(high, low):
                return False
    every = [entry[2] for entries in named.values() for entry in entries]
    if any(nodes[n][1] != every.count(n) or (n and n in named and nodes[n][1] != 1) for n in nodes):
        return False
    reached = {0}
    for _ in range(16):
        reached |= {entry[2] for n in reached & set(named) for entry in named[n]}
    return set(named) <= reached


def is_code(high, low):
    digits = []
    for half in (high, low):
        digits += [half // 729, half // 27 % 27, half % 27]
    letters = [digit for digit in digits if digit]
    return bool(letters) and max(digits) <= 26 and digits == letters + [0] * (6 - len(letters))


class SoundTest(WardCase):
    def spoilt(self, *changes, image=None):
        """Asks that the image with these words is not sound: tuples (block, offset, word)."""
        image = copy.deepcopy(image or sound())
        for block, offset, word in changes:
            image[block][offset] = word
        with self.subTest(changes=changes):
            self.assertIs(False, is_sound(image))
            self.assertIs(False, judged(image))

    def test_the_image_of_the_tests(self):
        image = sound()
        self.assertIs(True, is_sound(image))
        self.same([[0, 0, 3, 24, 26, 0, 0, 0], [0, 1, 3, 25, 27, 0, 0, 0], [1, 3, 17, 28, 29, 30, 0, 0],
                   [0, 1, 0, 0, 0, 0, 0, 0], [1, 1, 0, 0, 0, 0, 0, 0]], image[ROOT:EMPTY + 1])

    def test_the_shape(self):
        for blocks in (25, 26, 63, 64):
            self.assertIs(True, is_sound([list(BLANK) for _ in range(blocks)]))
        for blocks in (0, 1, 9, 24, 65, 100):
            self.assertIs(False, is_sound([list(BLANK) for _ in range(blocks)]))
        blank = [list(BLANK) for _ in range(30)]
        for value in no_images() + ANYTHING + [[], tuple(blank), [tuple(words) for words in blank], [blank]]:
            self.assertIs(False, is_sound(value))
        image = sound()
        for block in range(40):
            for offset in (0, 7):
                for word in (True, False, None, -1, 65536, "0", [0], ()):
                    self.assertIs(False, is_sound(image[:block] + [image[block][:offset] + [word] + image[block][offset + 1:]]
                                                  + image[block + 1:]))
            for words in (image[block][:7], image[block] + [0], tuple(image[block]), None, 0):
                self.assertIs(False, is_sound(image[:block] + [words] + image[block + 1:]))

    def test_the_header_and_the_log(self):
        for offset in range(8):
            self.spoilt((0, offset, 1))
        self.spoilt((0, 0, 1), (0, 1, 8))
        image = sound()
        image[1:8] = [[65535] * 8 for _ in range(7)]
        self.assertIs(True, is_sound(image))

    def test_nodes(self):
        self.spoilt((ROOT, 0, 1))
        self.spoilt((ROOT, 1, 1))
        for node in (FOLDER, FILE, INNER, EMPTY):
            self.spoilt((node, 0, 2))
            self.spoilt((node, 0, 65535))
            self.spoilt((node, 1, 0))
            self.spoilt((node, 1, 2 if node != FILE else 4))
        self.spoilt((FILE, 1, 1))
        # A node that nothing names is not free.
        for offset in range(8):
            self.spoilt((20, offset, 1))
        self.spoilt((20, 0, 1), (20, 1, 1))
        self.spoilt((20, 1, 1))
        # A free node that an entry names.
        self.spoilt(*[(EMPTY, offset, 0) for offset in range(8)])

    def test_sizes_and_pointers(self):
        for size in (0, 8, 9, 15, 16, 24, 25, 40, 41, 65535):
            if size not in (16, 24):
                self.spoilt((FILE, 2, size))
        self.spoilt((FILE, 2, 16))
        for size in (0, 1, 2, 4, 5, 10, 11):
            self.spoilt((ROOT, 2, size))
            self.spoilt((FOLDER, 2, size))
        for block in (0, 1, 8, 23, 40, 65535, 24, 28, 30):
            self.spoilt((FILE, 4, block))
        self.spoilt((FILE, 6, 31))
        self.spoilt((FILE, 7, 31))
        self.spoilt((INNER, 3, 31))
        self.spoilt((ROOT, 5, 31))
        # A block that holds what it should, but is another node's, too: both files hold the words 1 to 8.
        files = Files(Disk(40))
        for path in ("/a", "/b"):
            files.make_file(path)
            files.write(path, list(range(1, 9)))
        image = files._disk.image()
        self.assertIs(True, is_sound(image))
        self.spoilt((9, 3, image[10][3]), image=image)
        files.write("/a", [1] * 16)
        image = files._disk.image()
        self.spoilt((9, 4, image[9][3]), image=image)

    def test_the_greatest_sizes(self):
        files = Files(Disk(40))
        files.make_file("/a")
        files.write("/a", [1] * 40)
        for sign in "bcdefghij":
            files.link("/a", "/" + sign)
        image = files._disk.image()
        self.assertIs(True, is_sound(image))
        self.spoilt((9, 2, 41), image=image)
        self.spoilt((8, 2, 11), image=image)

    def test_words_that_hold_nothing(self):
        for offset in range(1, 8):
            self.spoilt((30, offset, 1))
        for block in (26, 27):
            for offset in range(4, 8):
                self.spoilt((block, offset, 1))
        # The words of a free data block do not matter, and those of a file are free.
        image = sound()
        image[31] = [65535] * 8
        image[28] = [0] * 8
        self.assertIs(True, is_sound(image))

    def test_entries(self):
        image = sound()
        self.assertEqual([729 * 6, 0, 1, 0, 729, 0, 2, 0], image[24])
        for high, low in ((0, 0), (0, 729), (27, 0), (1, 0), (729 + 1, 0), (729, 729), (729, 1), (27 * 729, 0), (65535, 0),
                          (729 + 27 + 1, 1), (729 + 27 + 1, 27), (729 + 27 + 1, 27 * 729), (729 + 27 + 1, 65535),
                          (26 * 729 + 26 * 27 + 27, 0), (26 * 729 + 27 * 27, 0)):
            if not is_code(high, low):
                self.spoilt((24, 0, high), (24, 1, low))
        for name in ("a", "z", "az", "zzz", "aaaa", "zzzzz", "abcdef", "zzzzzz"):
            high, low = coded(name)
            spoilt = copy.deepcopy(image)
            spoilt[26][:2] = [high, low]
            self.assertIs(name != "a", is_sound(spoilt), name)
        for node in (0, 5, 15, 16, 65535):
            self.spoilt((24, 6, node))
        self.spoilt((24, 3, 1))
        self.spoilt((24, 7, 65535))
        # Two entries of one folder have one name.
        self.spoilt((24, 0, 729))
        self.spoilt((27, 0, coded("b")[0]))
        # In two folders they may.
        spoilt = sound()
        spoilt[27][0] = coded("a")[0]
        self.assertIs(True, is_sound(spoilt))

    def test_an_entry_without_a_node(self):
        # Nothing else is wrong: no links are missing for these nodes.
        for node in (0, 1, 5, 15, 16, 17, 30, 65535):
            image = [list(BLANK) for _ in range(30)]
            image[8] = [0, 0, 1, 24, 0, 0, 0, 0]
            image[24] = [729, 0, node, 0, 0, 0, 0, 0]
            self.assertIs(False, is_sound(image), node)

    def test_links(self):
        # One link less and one more, so that the sum is right.
        self.spoilt((FILE, 1, 2), (EMPTY, 1, 2))
        # An entry that names another node.
        self.spoilt((27, 2, 4))
        right = sound()
        right[27][2] = 4
        right[FILE][1], right[EMPTY][1] = 2, 2
        self.assertIs(True, is_sound(right))
        # A folder with two names.
        self.spoilt((27, 2, 3), (FILE, 1, 2), (INNER, 1, 2))

    def test_folders_that_cannot_be_reached(self):
        files = Files(Disk(40))
        files.make_folder("/a")
        files.make_folder("/a/b")
        files.make_file("/c")
        image = files._disk.image()
        self.assertIs(True, is_sound(image))
        # The entry of /a goes into /a/b, so that the two folders hold each other.
        image[8] = [0, 0, 1, 24, 0, 0, 0, 0]
        image[24] = [729 * 3, 0, 3, 0, 0, 0, 0, 0]
        image[10] = [0, 1, 1, 26, 0, 0, 0, 0]
        image[26] = [729, 0, 1, 0, 0, 0, 0, 0]
        self.assertIs(False, is_sound(image))
        self.assertIs(False, judged(image))
        # A folder that holds itself.
        image = [list(BLANK) for _ in range(30)]
        image[9] = [0, 1, 1, 24, 0, 0, 0, 0]
        image[24] = [729, 0, 1, 0, 0, 0, 0, 0]
        self.assertIs(False, is_sound(image))

    def test_random_images_against_the_words(self):
        told = []
        for seed in range(40):
            chance = random.Random(seed)
            blocks = chance.choice([25, 28, 40, 64])
            model = Model(blocks)
            for _ in range(30):
                deed = random_deed(chance, model)
                if not model.due(*deed):
                    model.do(*deed)
            image = model.image()
            kept = copy.deepcopy(image)
            self.assertIs(True, is_sound(image))
            self.same(kept, image)
            for _ in range(40):
                spoilt = copy.deepcopy(image)
                for _ in range(chance.choice([1, 1, 1, 2, 3])):
                    used = [block for block in range(8, blocks) if any(spoilt[block])] or [8]
                    block, offset = chance.choice(used), chance.randrange(8)
                    spoilt[block][offset] = chance.choice([0, 1, 2, (spoilt[block][offset] + 1) % 65536,
                                                           chance.randrange(65), chance.choice(used)])
                told.append(judged(spoilt))
                self.assertIs(told[-1], is_sound(spoilt))
        self.assertTrue(100 < sum(told) < 1500, sum(told))


if __name__ == "__main__":
    unittest.main()
