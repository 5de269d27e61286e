"""Moments: what a stopped disk shows behind a row of deeds, [66]."""

import random
import unittest

from tests.cases import WardCase
from tests.filing import Model, random_deed
from wardwork.disk import Disk
from wardwork.errors import Stopped
from wardwork.files import Files
from wardwork.soundness import is_sound

DEEDS = [("make_folder", "/f"), ("make_file", "/f/a"), ("write", "/f/a", list(range(1, 41))), ("link", "/f/a", "/b"),
         ("make_folder", "/g"), ("rename", "/f/a", "/g/c"), ("write", "/b", [1, 2, 3]), ("write", "/b", [1, 2, 3]),
         ("rename", "/g", "/f/g"), ("erase", "/b"), ("write", "/f/g/c", [9] * 40), ("rename", "/f/g/c", "/f/g/d"),
         ("erase", "/f/g/d"), ("erase", "/f/g"), ("make_file", "/f/x"), ("rename", "/f", "/e")]


def random_deeds(seed):
    chance = random.Random(seed)
    model, deeds = Model(40), []
    while len(deeds) < 14:
        deed = random_deed(chance, model)
        if not model.due(*deed):
            model.do(*deed)
            deeds.append(deed)
    return deeds


class MomentsTest(WardCase):
    def check(self, deeds):
        model = Model(40)
        # For each number of writes the tree that is there if the disk stops behind them.
        trees = [model.tree()]
        for deed in deeds:
            before = model.tree()
            count = model.do(*deed)
            after = model.tree()
            if count:
                trees.extend([before] * count + [after] * (count + 2))
        for stop, tree in enumerate(trees):
            disk = Disk(40, stop=stop)
            files = Files(disk)
            done = 0
            try:
                for deed in deeds:
                    getattr(files, deed[0])(*deed[1:])
                    done += 1
            except Stopped as stopped:
                self.same((stop, stop), (stopped.done, disk.writes))
            self.assertEqual(stop == len(trees) - 1, done == len(deeds))
            again = Files(Disk.loaded(disk.image()))
            with self.subTest(stop=stop):
                self.same(tree, again.tree())
                self.assertTrue(is_sound(again._disk.image()))

    def test_each_number_of_writes(self):
        self.check(DEEDS)

    def test_random_deeds(self):
        for seed in range(4):
            self.check(random_deeds(seed))


if __name__ == "__main__":
    unittest.main()
