"""Trunk, [52], and its saved states, [8]."""

import copy
import random
import unittest

from tests.cases import WardCase
from tests.values import is_plain, no_integers_of, no_words_of, spoil
from wardwork.errors import BadArgument, Full
from wardwork.trunk import Trunk


def outlook(trunk, lanes):
    """All that a trunk tells and that changes nothing."""
    return (trunk.contents(), [trunk.waiting(lane) for lane in range(lanes)])


def everything(trunk, lanes):
    """All that is in a trunk, seen in a copy of it whose inboxes are emptied."""
    other = Trunk.restored(trunk.state())
    return copy.deepcopy((*outlook(trunk, lanes), [other.take(lane) for lane in range(lanes)], trunk.state()))


def trunk_of(lanes, room, *posts):
    trunk = Trunk(lanes, room=room)
    for lane, words in posts:
        trunk.post(lane, words)
    return trunk


class Model:
    """The trunk by the words of [52], with a row of lanes in the order of their turns."""

    def __init__(self, lanes, room):
        self.turns = list(range(lanes))
        self.room = room
        self.pieces = []
        self.out = [[] for _ in range(lanes)]
        self.inbox = [[] for _ in range(lanes)]

    def post(self, lane, words):
        self.out[lane] += words

    def push(self):
        ready = [lane for lane in self.turns if self.out[lane]]
        if not ready:
            return None
        lane = ready[0]
        piece = self.out[lane][:3]
        if sum(len(words) + 1 for _, words in self.pieces) + len(piece) + 1 > self.room:
            return None
        self.pieces.append((lane, piece))
        del self.out[lane][:3]
        at = self.turns.index(lane)
        self.turns = self.turns[at + 1:] + self.turns[:at + 1]
        return lane

    def pull(self):
        if not self.pieces:
            return None
        lane, words = self.pieces.pop(0)
        self.inbox[lane] += words
        return lane

    def take(self, lane):
        words, self.inbox[lane] = self.inbox[lane], []
        return words

    def outlook(self):
        words = [word for lane, piece in self.pieces for word in (4 * lane + len(piece), *piece)]
        return (words, [len(words) for words in self.out])


def random_call(chance, lanes):
    what = chance.choice(["post"] * 3 + ["push"] * 5 + ["pull"] * 4 + ["take"])
    if what == "post":
        return (what, chance.randrange(lanes), [chance.randrange(65536) for _ in range(chance.randrange(9))])
    return (what, chance.randrange(lanes)) if what == "take" else (what,)


def make(trunk, row):
    return getattr(trunk, row[0])(*row[1:])


class TrunkTest(WardCase):
    def test_a_piece_goes_over(self):
        trunk = Trunk(2, room=8)
        self.assertIsNone(trunk.push())
        self.assertIsNone(trunk.pull())
        self.assertIsNone(trunk.post(1, [7, 8, 9, 10]))
        self.assertIsNone(trunk.post(lane=1, words=[]))
        self.same(([], [0, 4]), outlook(trunk, 2))
        self.same(1, trunk.push())
        self.same(([7, 7, 8, 9], [0, 1]), outlook(trunk, 2))
        self.same(1, trunk.push())
        self.same(([7, 7, 8, 9, 5, 10], [0, 0]), outlook(trunk, 2))
        self.assertIsNone(trunk.push())
        self.same([], trunk.take(1))
        self.same(1, trunk.pull())
        self.same(([5, 10], [0, 0]), outlook(trunk, 2))
        self.same([], trunk.take(0))
        self.same([7, 8, 9], trunk.take(lane=1))
        self.same([], trunk.take(1))
        self.same(1, trunk.pull())
        self.assertIsNone(trunk.pull())
        self.same([10], trunk.take(1))

    def test_pieces_of_1_2_and_3_words(self):
        for many, head in ((1, 13), (2, 14), (3, 15), (4, 15), (16, 15)):
            trunk = trunk_of(4, 8, (3, list(range(100, 100 + many))))
            trunk.push()
            self.same([head, *range(100, 100 + min(many, 3))], trunk.contents())
            self.same(max(0, many - 3), trunk.waiting(lane=3))
            trunk.pull()
            self.same([*range(100, 100 + min(many, 3))], trunk.take(3))

    def test_the_turn_of_the_lanes(self):
        trunk = trunk_of(4, 16, *[(lane, [lane] * 9) for lane in range(4)])
        self.same([0, 1, 2, 3], [trunk.push() for _ in range(4)])
        self.assertIsNone(trunk.push())
        for _ in range(4):
            trunk.pull()
        self.same([0, 1, 2, 3], [trunk.push() for _ in range(4)])

    def test_the_turn_leaves_out_empty_lanes(self):
        trunk = trunk_of(5, 16, (3, [1]), (1, [1] * 4))
        self.same([1, 3, 1], [trunk.push() for _ in range(3)])
        trunk.post(1, [5])
        trunk.post(0, [5])
        trunk.post(4, [5])
        self.same([4, 0, 1], [trunk.push() for _ in range(3)])

    def test_the_lane_that_was_pushed_last_stands_at_the_end(self):
        trunk = trunk_of(3, 16, (1, [1] * 16), (2, [2] * 4))
        self.same([1, 2, 1, 2], [trunk.push() for _ in range(4)])
        trunk = trunk_of(3, 16, (1, [1] * 9))
        self.same([1, 1], [trunk.push() for _ in range(2)])
        trunk.post(0, [1])
        self.same(0, trunk.push())

    def test_a_push_that_moves_nothing_gives_the_turn_to_nobody(self):
        trunk = trunk_of(3, 4, (0, [1, 2, 3]))
        self.same(0, trunk.push())
        trunk.post(1, [4])
        trunk.post(2, [5])
        trunk.post(0, [6])
        self.assertIsNone(trunk.push())
        self.assertIsNone(trunk.push())
        trunk.pull()
        self.same([1, 2], [trunk.push() for _ in range(2)])
        self.assertIsNone(trunk.push())

    def test_no_shorter_piece_and_no_other_lane(self):
        for free in range(8):
            trunk = trunk_of(2, 8, (1, [9] * 3))
            trunk.push()
            trunk.post(1, [8])
            trunk.push()
            # Six words are in the pipe, so two are free.
            trunk.post(0, [1, 2, 3][:free])
            trunk.post(1, [7])
            before = outlook(trunk, 2)
            told = trunk.push()
            if free in (0, 1):
                self.same(1 - free, told)
            else:
                self.assertIsNone(told)
                self.assertEqual(before, outlook(trunk, 2))

    def test_rooms_and_lanes(self):
        for room in (4, 5, 16):
            trunk = trunk_of(8, room, *[(lane, [lane] * 3) for lane in range(8)])
            pushed = [trunk.push() for _ in range(8)]
            self.same([*range(room // 4)] + [None] * (8 - room // 4), pushed)
            self.same([word for lane in range(room // 4) for word in [4 * lane + 3] + [lane] * 3], trunk.contents())
        trunk = trunk_of(1, 4, (0, [1] * 7))
        pushed = []
        for _ in range(3):
            pushed.append(trunk.push())
            trunk.pull()
        self.same(([0, 0, 0], [1] * 7), (pushed, trunk.take(0)))
        trunk = trunk_of(8, 16, (7, [5]))
        self.same((7, [29, 5]), (trunk.push(), trunk.contents()))
        trunk = Trunk()
        for lane in range(4):
            trunk.post(lane, [1] * 3)
        self.raised(BadArgument, {"name": "lane"}, trunk.waiting, 4)
        self.same([0, 1, None], [trunk.push() for _ in range(3)])
        self.same(0, Trunk(lanes=1).waiting(0))

    def test_an_outbox_of_64_words(self):
        trunk = Trunk(2)
        for _ in range(4):
            trunk.post(1, [5] * 16)
        before = outlook(trunk, 2)
        for words in ([1], [1] * 16):
            self.raised(Full, {"what": 1}, trunk.post, 1, words)
        self.assertEqual(before, outlook(trunk, 2))
        trunk.post(1, [])
        trunk.post(0, [1] * 16)
        trunk.push()
        self.same([13, 64], [trunk.waiting(0), trunk.waiting(1)])
        trunk.push()
        self.raised(Full, {"what": 1}, trunk.post, 1, [1] * 4)
        trunk.post(1, [1] * 3)
        self.same(64, trunk.waiting(1))

    def test_arguments_are_asked(self):
        self.refused(Trunk, {"lanes": 1, "room": 4}, {"lanes": no_integers_of(1, 8), "room": no_integers_of(4, 16)})
        for lanes in (1, 3, 8):
            trunk = trunk_of(lanes, 8, (0, [1] * 8))
            trunk.push()
            trunk.pull()
            wrong = {"lane": no_integers_of(0, lanes - 1), "words": no_words_of(0, 16)}
            self.refused(trunk.post, {"lane": 0, "words": [1]}, wrong, lambda: everything(trunk, lanes))
            for method in (trunk.take, trunk.waiting):
                self.refused(method, {"lane": 0}, {"lane": wrong["lane"]}, lambda: everything(trunk, lanes))
            # The wrong argument goes ahead of Full.
            for _ in range(3):
                trunk.post(0, [1] * 16)
            self.refused(trunk.post, {"lane": 0, "words": [1] * 16}, wrong, lambda: everything(trunk, lanes))

    def test_lists_are_neither_kept_nor_handed_out(self):
        words = [1, 2, 3]
        trunk = Trunk(1)
        trunk.post(0, words)
        words[0] = 9
        words.append(4)
        trunk.push()
        trunk.contents().clear()
        self.assertEqual(([1, 2, 3, 4], [3, 1, 2, 3]), ([*range(1, 5)], trunk.contents()))
        self.assertEqual([9, 2, 3, 4], words)
        trunk.pull()
        taken = trunk.take(0)
        taken.append(7)
        trunk.post(0, [5])
        trunk.push()
        trunk.pull()
        self.assertEqual(([1, 2, 3, 7], [5]), (taken, trunk.take(0)))

    def test_random_calls_agree_with_the_model(self):
        for seed in range(40):
            chance = random.Random(seed)
            lanes, room = chance.randrange(1, 9), chance.randrange(4, 17)
            trunk, model = Trunk(lanes, room=room), Model(lanes, room)
            posted, got = [[] for _ in range(lanes)], [[] for _ in range(lanes)]
            for _ in range(250):
                row = random_call(chance, lanes)
                if row[0] == "post" and trunk.waiting(row[1]) + len(row[2]) > 64:
                    self.raised(Full, {"what": row[1]}, make, trunk, row)
                    continue
                told = make(trunk, row)
                self.same(make(model, row), told)
                self.same(model.outlook(), outlook(trunk, lanes))
                if row[0] == "post":
                    posted[row[1]] += row[2]
                elif row[0] == "take":
                    got[row[1]] += told
                    self.same(posted[row[1]][:len(got[row[1]])], got[row[1]])


class StateTest(WardCase):
    def test_a_restored_trunk_goes_on_alike(self):
        for seed in range(25):
            chance = random.Random(seed)
            lanes = chance.randrange(1, 9)
            first = Trunk(lanes, room=chance.randrange(4, 17))
            self.go_on(first, [random_call(chance, lanes) for _ in range(chance.randrange(60))])
            before, state = outlook(first, lanes), first.state()
            self.assertTrue(is_plain(state))
            self.assertEqual(before, outlook(first, lanes))
            kept = copy.deepcopy(state)
            second = Trunk.restored(state)
            self.same((before, state), (outlook(second, lanes), second.state()))
            calls = [random_call(chance, lanes) for _ in range(60)]
            told = self.go_on(second, calls)
            self.same((kept, before), (state, outlook(first, lanes)))
            self.same(told, self.go_on(first, calls))
            self.same(everything(second, lanes), everything(first, lanes))
            self.same(before, outlook(Trunk.restored(kept), lanes))

    def go_on(self, trunk, calls):
        """Makes the calls but those that would raise Full."""
        return [make(trunk, row) for row in calls if row[0] != "post" or trunk.waiting(row[1]) + len(row[2]) <= 64]

    def test_changing_a_state_changes_nothing(self):
        trunk = trunk_of(3, 8, (0, [1] * 5), (2, [2] * 5))
        for _ in range(2):
            trunk.push()
        trunk.pull()
        before, state = everything(trunk, 3), trunk.state()
        second, third = Trunk.restored(state), trunk.restored(copy.deepcopy(state))
        spoil(state)
        self.assertEqual([before] * 3, [everything(one, 3) for one in (trunk, second, third)])
        second.post(1, [5])
        second.push()
        second.pull()
        second.take(0)
        self.assertEqual([before] * 2, [everything(one, 3) for one in (trunk, third)])
        self.assertIsInstance(second, Trunk)
        self.raised(BadArgument, {"name": "lane"}, third.take, 3)

    def test_the_turn_is_saved(self):
        trunk = trunk_of(3, 16, *[(lane, [lane] * 3) for lane in range(3)])
        trunk.push()
        trunk.post(0, [0])
        self.same([1, 2, 0], [Trunk.restored(trunk.state()).push()] + [trunk.push() for _ in range(3)][1:])


if __name__ == "__main__":
    unittest.main()
