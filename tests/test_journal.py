"""The journal: commit, [54] and [55], recover, pending and settled, [56], stops, [57], and is_recovery, [58]."""

import copy
import random
import unittest

from tests.cases import WardCase
from tests.test_disk import no_images
from tests.values import ANYTHING, NO_INTEGERS, NO_WORDS
from wardwork.disk import Disk
from wardwork.errors import BadArgument, Stopped, WrongState
from wardwork.journal import commit, is_recovery, pending, recover, settled

BLANK = [0] * 8


def old_image(blocks=20):
    """An image with a clear header and other words in each block."""
    return [list(BLANK)] + [[100 * block + k for k in range(8)] for block in range(1, blocks)]


def changes_of(*blocks):
    return [(block, [5000 + 100 * block + k for k in range(8)]) for block in blocks]


def with_changes(image, changes):
    after = copy.deepcopy(image)
    for block, words in changes:
        after[block] = list(words)
    return after


def with_header(header, blocks=20):
    image = old_image(blocks)
    image[0] = header
    return image


def stopped_commit(image, changes, stop):
    """The image that a commit leaves if it is stopped after so many writes."""
    disk = Disk.loaded(image, stop=stop)
    try:
        commit(disk, changes)
    except Stopped:
        pass
    return disk.image()


# Headers that are neither clear nor loaded, for a disk of 20 blocks.
DAMAGED = [
    [8, 8, 9, 10, 11, 12, 13, 14], [65535, 8, 0, 0, 0, 0, 0, 0], [9] + [8] * 7, [1, 7, 0, 0, 0, 0, 0, 0],
    [1, 0, 0, 0, 0, 0, 0, 0], [1, 20, 0, 0, 0, 0, 0, 0], [1, 65535, 0, 0, 0, 0, 0, 0], [2, 8, 8, 0, 0, 0, 0, 0],
    [2, 8, 0, 0, 0, 0, 0, 0], [3, 8, 9, 8, 0, 0, 0, 0], [1, 8, 9, 0, 0, 0, 0, 0], [1, 8, 0, 0, 0, 0, 0, 1],
    [7, 8, 9, 10, 11, 12, 13, 13], [7, 8, 9, 10, 11, 12, 13, 0], [7, 8, 9, 10, 11, 12, 13, 20],
    [0, 8, 0, 0, 0, 0, 0, 0], [0, 0, 0, 0, 0, 0, 0, 1], [6, 8, 9, 10, 11, 12, 13, 14], [2, 1, 8, 0, 0, 0, 0, 0],
]
# Loaded headers, with their home blocks.
LOADED = [
    ([1, 8, 0, 0, 0, 0, 0, 0], [8]), ([1, 19, 0, 0, 0, 0, 0, 0], [19]), ([2, 19, 8, 0, 0, 0, 0, 0], [19, 8]),
    ([7, 14, 13, 12, 11, 10, 9, 8], [14, 13, 12, 11, 10, 9, 8]), ([6, 8, 9, 10, 11, 12, 13, 0], list(range(8, 14))),
]


class Watched(Disk):
    """A disk that tells its writes."""

    def __init__(self, blocks):
        Disk.__init__(self, blocks)
        self.told = []

    def write(self, block, words):
        Disk.write(self, block, words)
        self.told.append((block, list(words)))


class CommitTest(WardCase):
    def test_the_writes_in_their_order(self):
        for blocks in ([8], [19], [12, 8, 19], [14, 13, 12, 11, 10, 9, 8]):
            disk, changes = Watched(20), changes_of(*blocks)
            count = len(blocks)
            self.assertIsNone(commit(disk, changes))
            header = [count, *blocks] + [0] * (7 - count)
            log = [(at + 1, words) for at, (block, words) in enumerate(changes)]
            self.same(log + [(0, header)] + changes + [(0, BLANK)], disk.told)
            self.same(2 * count + 2, disk.writes)

    def test_no_changes_and_same_words(self):
        disk = Disk.loaded(old_image())
        self.assertIsNone(commit(disk, []))
        self.same((0, old_image()), (disk.writes, disk.image()))
        commit(disk=disk, changes=[(9, old_image()[9])])
        self.same((4, with_changes(old_image(), [(1, old_image()[9])])), (disk.writes, disk.image()))

    def test_only_a_clear_header_is_taken(self):
        for header in DAMAGED + [header for header, blocks in LOADED]:
            disk = Disk.loaded(with_header(header), stop=0)
            for changes in ([], changes_of(8), changes_of(8, 9, 10, 11, 12, 13, 14)):
                self.raised(WrongState, {"what": "journal"}, commit, disk, changes)
            # A wrong argument goes ahead.
            self.raised(BadArgument, {"name": "changes"}, commit, disk, [(7, BLANK)])
            self.same((0, with_header(header)), (disk.writes, disk.image()))

    def test_wrong_changes(self):
        wrong = [x for x in NO_INTEGERS if x != []] + [changes_of(*range(8, 16)), tuple(changes_of(8))]
        pairs = [(7, BLANK), (0, BLANK), (1, BLANK), (20, BLANK), (-1, BLANK), (True, BLANK), ("8", BLANK),
                 (None, BLANK), ([8], BLANK), (8, BLANK[:7]), (8, BLANK + [0]), (8, tuple(BLANK)), (8, None), (8, []),
                 (8, "00000000"), [8, BLANK], (8,), (8, BLANK, 0), (BLANK, 8), (), None, 8]
        pairs.extend((8, [0] * at + [word] + [0] * (7 - at)) for word in NO_WORDS for at in (0, 3, 7))
        for pair in pairs:
            for at in (0, 1, 2):
                good = changes_of(10, 11)
                wrong.append(good[:at] + [pair] + good[at:])
        wrong.extend([changes_of(9, 9), changes_of(9, 10, 9), changes_of(8, 9, 10, 11, 12, 13, 13)])
        for stop in (None, 0):
            disk = Disk.loaded(old_image(), stop=stop)
            for changes in wrong:
                with self.subTest(changes=changes):
                    self.raised(BadArgument, {"name": "changes"}, commit, disk, changes)
            self.same((0, old_image()), (disk.writes, disk.image()))
        # The greatest home block is that of this disk.
        self.raised(BadArgument, {"name": "changes"}, commit, Disk(9), changes_of(9))
        commit(Disk(9), changes_of(8))
        commit(Disk(64), changes_of(63, 8))

    def test_a_stop_tells_the_writes_done(self):
        for stop in range(8):
            disk = Disk.loaded(old_image(), stop=stop)
            self.raised(Stopped, {"done": stop}, commit, disk, changes_of(8, 9, 10))
            self.same(stop, disk.writes)
        disk = Disk.loaded(old_image(), stop=8)
        commit(disk, changes_of(8, 9, 10))
        commit(disk, [])
        self.raised(Stopped, {"done": 8}, commit, disk, changes_of(8))

    def test_lists_are_not_kept(self):
        disk, changes = Disk(20), changes_of(8, 9)
        kept = copy.deepcopy(changes)
        commit(disk, changes)
        changes[0][1][0] = 9
        changes.clear()
        self.same([words for block, words in kept], disk.image()[8:10])


class RecoverTest(WardCase):
    def test_a_clear_header(self):
        for blocks in (9, 20, 64):
            disk = Disk.loaded(old_image(blocks), stop=0)
            self.same(([], [], 0), (recover(disk), pending(disk), disk.writes))
            self.same(old_image(blocks), disk.image())
            self.same(old_image(blocks), settled(old_image(blocks)))

    def test_a_loaded_header(self):
        for header, blocks in LOADED:
            image = with_header(header)
            moves = [(block, image[at + 1]) for at, block in enumerate(blocks)]
            after = with_changes(with_header(BLANK), moves)
            disk = Watched(20)
            for block, words in enumerate(image):
                disk.write(block, words)
            disk.told.clear()
            self.same(moves, pending(disk))
            self.same(after, settled(image))
            self.same((image, []), (disk.image(), disk.told))
            self.same(blocks, recover(disk))
            self.same(moves + [(0, BLANK)], disk.told)
            self.same(after, disk.image())
            self.same(([], []), (pending(disk), recover(disk)))
            self.same(len(moves) + 1, len(disk.told))

    def test_a_damaged_header(self):
        for header in DAMAGED:
            disk = Disk.loaded(with_header(header), stop=0)
            with self.subTest(header=header):
                self.raised(WrongState, {"what": "journal"}, recover, disk)
                self.raised(WrongState, {"what": "journal"}, pending, disk)
                self.raised(WrongState, {"what": "journal"}, settled, with_header(header))
                self.same((with_header(header), 0), (disk.image(), disk.writes))
        # What is a home block depends on the disk.
        header = [1, 20, 0, 0, 0, 0, 0, 0]
        self.same([20], recover(Disk.loaded(with_header(header, 21))))

    def test_a_stop_in_recovery(self):
        for header, blocks in LOADED:
            image = with_header(header)
            for stop in range(len(blocks) + 1):
                disk = Disk.loaded(image, stop=stop)
                self.raised(Stopped, {"done": stop}, recover, disk)
                self.same((stop, header), (disk.writes, disk.read(0)))
            self.same(blocks, recover(Disk.loaded(image, stop=len(blocks) + 1)))

    def test_images_are_asked(self):
        self.refused(settled, {"image": old_image()}, {"image": no_images()})

    def test_lists_are_new(self):
        image = with_header([1, 8, 0, 0, 0, 0, 0, 0])
        kept = copy.deepcopy(image)
        after = settled(image)
        for words in after:
            words.clear()
        after.clear()
        self.same(kept, image)
        disk = Disk.loaded(image)
        for told in (pending(disk), recover(disk)):
            told.clear()
        pending(Disk.loaded(kept))[0][1].clear()
        self.same(with_changes(with_header(BLANK), [(8, kept[1])]), disk.image())


class StopTest(WardCase):
    """[57]: what a stop leaves."""

    def check(self, image, stops, right):
        """Recovery is stopped after each of these numbers of writes, and then it is not stopped."""
        for stop in stops:
            disk = Disk.loaded(image, stop=stop)
            try:
                recover(disk)
            except Stopped:
                pass
            image = disk.image()
        moves = pending(Disk.loaded(image))
        after = settled(image)
        disk = Disk.loaded(image)
        self.same([block for block, words in moves], recover(disk))
        self.same((after, right), (disk.image(), disk.image()[8:]))
        self.assertTrue(is_recovery([block for block, words in moves], image, after))

    def test_every_stop_of_a_commit(self):
        for count in range(8):
            changes = changes_of(*[19, 8, 12, 9, 15, 10, 11][:count])
            old, new = old_image()[8:], with_changes(old_image(), changes)[8:]
            for stop in range(2 * count + 3):
                image = stopped_commit(old_image(), changes, stop)
                right = old if stop <= count else new
                self.check(image, [], right)
                for first in range(count + 2):
                    self.check(image, [first], right)
                    self.check(image, [first, 0, count, first], right)

    def test_random_stops(self):
        for seed in range(60):
            chance = random.Random(seed)
            image = old_image(chance.choice([9, 20, 64]))
            count = chance.randrange(1, min(7, len(image) - 8) + 1)
            changes = changes_of(*chance.sample(range(8, len(image)), count))
            stop = chance.randrange(2 * count + 3)
            right = (image if stop <= count else with_changes(image, changes))[8:]
            stops = [chance.randrange(count + 2) for _ in range(chance.randrange(6))]
            self.check(stopped_commit(image, changes, stop), stops, right)


class IsRecoveryTest(WardCase):
    def test_right_certificates(self):
        self.assertIs(True, is_recovery([], old_image(), old_image()))
        self.assertIs(True, is_recovery(certificate=[], before=old_image(9), after=old_image(9)))
        for header, blocks in LOADED:
            image = with_header(header)
            self.assertIs(True, is_recovery(list(blocks), image, settled(image)))

    def test_wrong_certificates(self):
        for header, blocks in LOADED:
            image = with_header(header)
            after = settled(image)
            wrong = [[], blocks + [15], blocks[1:], blocks[:-1], blocks + blocks, tuple(blocks), [blocks],
                     [str(block) for block in blocks], [(block,) for block in blocks], blocks + [0], [0] + blocks]
            wrong.extend([blocks[::-1]] if len(blocks) > 1 else [])
            wrong.extend(blocks[:at] + [True] + blocks[at + 1:] for at in range(len(blocks)))
            for certificate in wrong + ANYTHING:
                self.assertIs(False, is_recovery(certificate, image, after), certificate)
        for certificate in [[0], [8], [False], [True], [[]], (), None, "", 0, False]:
            self.assertIs(False, is_recovery(certificate, old_image(), old_image()), certificate)

    def test_a_damaged_header(self):
        for header in DAMAGED:
            image = with_header(header)
            for certificate in ([], [8], None, header[1:header[0] + 1], [block for block in header[1:] if block]):
                self.assertIs(False, is_recovery(certificate, image, image))
                self.assertIs(False, is_recovery(certificate, image, with_header(BLANK)))

    def test_other_images(self):
        for header, blocks in LOADED + [(BLANK, [])]:
            image = with_header(header)
            after = settled(image)
            for block in range(20):
                for k in (0, 7):
                    wrong = copy.deepcopy(after)
                    wrong[block][k] += 1
                    self.assertIs(False, is_recovery(blocks, image, wrong), (block, k))
            for wrong in (after[:-1], after + [BLANK], after + [after[-1]]):
                self.assertIs(False, is_recovery(blocks, image, wrong))
            if blocks:
                self.assertIs(False, is_recovery(blocks, image, image))


if __name__ == "__main__":
    unittest.main()
