"""Disk, [53]."""

import copy
import random
import unittest

from tests.cases import WardCase
from tests.values import NO_INTEGERS, NO_WORDS, no_integers_of, no_words_of
from wardwork.disk import Disk
from wardwork.errors import BadArgument, Stopped

NO_STOPS = [x for x in no_integers_of(0, 9999) if x is not None]
BLANK = [0] * 8


def seen(disk):
    return copy.deepcopy((disk.image(), disk.writes))


def image_of(blocks):
    """An image with other words in each block."""
    return [[8 * block + k for k in range(8)] for block in range(blocks)]


def no_images():
    """Wrong values for an image."""
    wrong = [x for x in NO_INTEGERS] + [9, 64, "0" * 9, [BLANK] * 8, [BLANK] * 65, (BLANK,) * 9, [tuple(BLANK)] * 9,
                                        [[0] * 7] * 9, [[0] * 9] * 9, [0] * 72, [[]] * 9, [None] * 9, [BLANK * 9]]
    for at in (0, 4, 8):
        for part in [BLANK[:7], BLANK + [0], tuple(BLANK), None, 0, "00000000", [], [BLANK]]:
            wrong.append([BLANK] * at + [part] + [BLANK] * (8 - at))
        for k in (0, 7):
            for word in NO_WORDS:
                wrong.append([BLANK] * at + [BLANK[:k] + [word] + BLANK[k + 1:]] + [BLANK] * (8 - at))
    return wrong


class DiskTest(WardCase):
    def test_the_number_of_blocks(self):
        for blocks in (9, 10, 63, 64):
            disk = Disk(blocks)
            self.same(([BLANK] * blocks, 0), seen(disk))
            self.same([BLANK] * blocks, [disk.read(block) for block in range(blocks)])
            disk.write(blocks - 1, [1] * 8)
            self.same([1] * 8, disk.read(blocks - 1))
            for block in (blocks, -1):
                self.raised(BadArgument, {"name": "block"}, disk.read, block)
                self.raised(BadArgument, {"name": "block"}, disk.write, block, BLANK)
        self.assertEqual(9, len(Disk(blocks=9, stop=None).image()))

    def test_read_and_write(self):
        disk = Disk(9)
        self.assertIsNone(disk.write(0, [1, 2, 3, 4, 5, 6, 7, 65535]))
        self.assertIsNone(disk.write(block=8, words=[9] * 8))
        self.same([1, 2, 3, 4, 5, 6, 7, 65535], disk.read(0))
        self.same([9] * 8, disk.read(block=8))
        self.same(2, disk.writes)
        disk.write(0, BLANK)
        self.same(([BLANK] * 8 + [[9] * 8], 3), seen(disk))
        # A write of the same words is a write, too.
        disk.write(0, BLANK)
        self.same(4, disk.writes)

    def test_the_stop(self):
        for stop in (0, 1, 2, 5):
            disk = Disk(9, stop=stop)
            for done in range(stop):
                self.assertEqual(done, disk.writes)
                disk.write(done, [done + 1] * 8)
            before = seen(disk)
            self.assertEqual(stop, disk.writes)
            for block in (0, 8):
                for _ in range(2):
                    self.raised(Stopped, {"done": stop}, disk.write, block, [7] * 8)
            self.same(before, seen(disk))
            # Reading goes on after the stop.
            self.same([[done + 1] * 8 for done in range(stop)], [disk.read(block) for block in range(stop)])

    def test_a_late_stop_and_none(self):
        disk, other = Disk(9, stop=9999), Disk(9)
        for k in range(9999):
            disk.write(k % 9, [k] * 8)
            other.write(k % 9, [k] * 8)
        self.raised(Stopped, {"done": 9999}, disk.write, 0, BLANK)
        other.write(0, BLANK)
        self.same((9999, 10000), (disk.writes, other.writes))

    def test_images_back_and_forth(self):
        for blocks in (9, 20, 64):
            image = image_of(blocks)
            disk = Disk.loaded(image)
            self.assertIsInstance(disk, Disk)
            self.same((image, 0), seen(disk))
            self.same(image[blocks - 1], disk.read(blocks - 1))
            disk.write(3, BLANK)
            self.same((image[:3] + [BLANK] + image[4:], 1), seen(disk))
            self.same((disk.image(), 0), seen(disk.loaded(disk.image())))

    def test_a_loaded_disk_stops(self):
        disk = Disk.loaded(image=image_of(9), stop=1)
        disk.write(0, BLANK)
        self.raised(Stopped, {"done": 1}, disk.write, 1, BLANK)
        stopped = Disk.loaded(disk.image(), stop=0)
        self.raised(Stopped, {"done": 0}, stopped.write, 1, BLANK)
        self.same([BLANK] + image_of(9)[1:], stopped.image())
        fresh = Disk.loaded(disk.image(), stop=None)
        fresh.write(1, BLANK)
        self.same(1, fresh.writes)

    def test_arguments_are_asked(self):
        self.refused(Disk, {"blocks": 9, "stop": None}, {"blocks": no_integers_of(9, 64), "stop": NO_STOPS})
        for stop in (0, 1, None):
            disk = Disk(9, stop=stop)
            wrong = {"block": no_integers_of(0, 8), "words": no_words_of(8, 8)}
            # The wrong argument goes ahead of Stopped.
            self.refused(disk.write, {"block": 0, "words": BLANK}, wrong, lambda: seen(disk))
            self.refused(disk.read, {"block": 0}, {"block": wrong["block"]}, lambda: seen(disk))
        self.raised(BadArgument, {"name": "words"}, Disk(9).write, 0, None)

    def test_wrong_images(self):
        self.refused(Disk.loaded, {"image": image_of(9), "stop": 0}, {"image": no_images(), "stop": NO_STOPS})

    def test_lists_are_neither_kept_nor_handed_out(self):
        words, image = [1] * 8, image_of(9)
        disk, other = Disk(9), Disk.loaded(image)
        disk.write(0, words)
        words[0] = 2
        words.clear()
        image[0][0] = 5
        image.clear()
        before = (seen(disk), seen(other))
        self.assertEqual(([[1] * 8] + [BLANK] * 8, image_of(9)), (disk.image(), other.image()))
        for one in (disk, other):
            one.read(0).clear()
            one.image()[0].clear()
            one.image().clear()
        self.assertEqual(before, (seen(disk), seen(other)))
        same = [3] * 8
        disk.write(1, same)
        disk.write(2, same)
        disk.write(1, BLANK)
        self.assertEqual([BLANK, [3] * 8, [3] * 8], [disk.read(1), disk.read(2), same])
        # Blocks that were loaded from one list are blocks of their own.
        disk = Disk.loaded([same] * 9)
        disk.write(0, BLANK)
        self.assertEqual([BLANK] + [[3] * 8] * 8, disk.image())

    def test_random_calls_agree_with_a_model(self):
        for seed in range(10):
            chance = random.Random(seed)
            blocks, stop = chance.randrange(9, 65), chance.choice([None, 0, 5, 40, 9999])
            disk, image, done = Disk(blocks, stop=stop), [list(BLANK) for _ in range(blocks)], 0
            for _ in range(100):
                block, words = chance.randrange(blocks), [chance.randrange(65536) for _ in range(8)]
                if stop is None or done < stop:
                    disk.write(block, words)
                    image[block], done = words, done + 1
                else:
                    self.raised(Stopped, {"done": stop}, disk.write, block, words)
                self.same((image, done), seen(disk))


if __name__ == "__main__":
    unittest.main()
