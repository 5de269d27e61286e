"""Space, [10] and [12] to [14]."""

import random
import unittest

from tests.cases import WardCase
from tests.values import NO_INTEGERS, NO_WORDS, no_integers_of
from wardwork.errors import BadArgument, Full, WrongState
from wardwork.frames import Frames
from wardwork.spaces import Space


def seen(frames, *spaces):
    """All that the frames and the unclosed spaces tell."""
    holds = [frames.holds(frame) for frame in range(frames.many)]
    pages = [frames.page(frame) for frame in range(frames.many) if holds[frame]]
    return (frames.free, holds, pages, [(space.pages, space.table(), space.contents()) for space in spaces])


class BlankTest(WardCase):
    def test_blank_pages_read_zero_and_take_no_frame(self):
        frames = Frames(1)
        for pages in (1, 2, 16):
            space = Space(frames, pages=pages)
            self.assertEqual(pages, space.pages)
            self.assertEqual([None] * pages, space.table())
            self.assertEqual([0] * (8 * pages), space.contents())
            self.assertEqual([0] * (8 * pages), [space.read(address) for address in range(8 * pages)])
            self.assertEqual(0, space.read(address=8 * pages - 1))
        self.assertEqual([0], frames.free)
        self.assertEqual(4, Space(frames).pages)
        self.assertEqual(4, Space(frames=frames).pages)

    def test_a_write_of_a_blank_page_takes_the_lowest_frame(self):
        frames = Frames(3)
        frames.take([9] * 8)
        frames.take([9] * 8)
        frames.drop(0)
        space = Space(frames, pages=2)
        self.assertIsNone(space.write(15, 65535))
        self.assertEqual([None, 0], space.table())
        self.assertEqual([0] * 7 + [65535], frames.page(0))
        self.assertIsNone(space.write(address=0, word=0))
        self.assertEqual([2, 0], space.table())
        self.assertEqual([0] * 8, frames.page(2))
        self.assertEqual([0] * 15 + [65535], space.contents())
        self.assertEqual([1, 1, 1], [frames.holds(frame) for frame in range(3)])

    def test_a_page_with_one_hold_keeps_its_frame(self):
        frames = Frames(2)
        space = Space(frames, pages=1)
        for address in range(8):
            space.write(address, address + 1)
        self.assertEqual([0], space.table())
        self.assertEqual([1], frames.free)
        self.assertEqual(list(range(1, 9)), frames.page(0))
        # A frame of one hold is no matter of room.
        frames.take()
        space.write(7, 7)
        self.assertEqual([1, 2, 3, 4, 5, 6, 7, 7], space.contents())

    def test_addresses_lie_in_pages_of_eight(self):
        frames = Frames(16)
        space = Space(frames, pages=16)
        for address in range(127, -1, -1):
            space.write(address, 500 + address)
        self.assertEqual(list(range(500, 628)), space.contents())
        self.assertEqual(list(range(500, 628)), [space.read(address) for address in range(128)])
        self.assertEqual(list(range(500, 628)), [space[address] for address in range(128)])
        self.assertEqual(list(range(15, -1, -1)), space.table())
        self.assertEqual(list(range(508, 516)), frames.page(space.table()[1]))


class SharedTest(WardCase):
    def test_fork_shares_every_frame(self):
        frames = Frames(2)
        space = Space(frames, pages=3)
        space.write(8, 5)
        space.write(16, 6)
        child = space.fork()
        self.assertIsInstance(child, Space)
        self.assertEqual(3, child.pages)
        self.assertEqual([None, 0, 1], child.table())
        self.assertEqual(space.contents(), child.contents())
        self.assertEqual([2, 2], [frames.holds(0), frames.holds(1)])
        self.assertEqual([], frames.free)

    def test_a_write_of_a_shared_page_copies_it(self):
        frames = Frames(3)
        space = Space(frames, pages=1)
        space.write(0, 5)
        space.write(7, 6)
        child = space.fork()
        child.write(0, 9)
        self.assertEqual([1], child.table())
        self.assertEqual([0], space.table())
        self.assertEqual([5, 0, 0, 0, 0, 0, 0, 6], space.contents())
        self.assertEqual([9, 0, 0, 0, 0, 0, 0, 6], child.contents())
        self.assertEqual([1, 1, 0], [frames.holds(frame) for frame in range(3)])
        space.write(0, 4)
        self.assertEqual([0], space.table())

    def test_a_write_of_the_word_that_is_there_copies_too(self):
        frames = Frames(3)
        space = Space(frames, pages=1)
        space.write(0, 5)
        child = space.fork()
        space.write(0, 5)
        self.assertEqual([1], space.table())
        self.assertEqual([0], child.table())
        self.assertEqual([[5] + [0] * 7] * 2, [space.contents(), child.contents()])

    def test_a_hold_is_a_hold_whoever_made_it(self):
        frames = Frames(3)
        space = Space(frames, pages=1)
        space.write(0, 5)
        frames.share(0)
        space.write(1, 6)
        self.assertEqual([1], space.table())
        self.assertEqual(1, frames.holds(0))
        self.assertEqual([5] + [0] * 7, frames.page(0))
        self.assertEqual([5, 6] + [0] * 6, space.contents())

    def test_blank_pages_are_blank_in_a_fork_and_not_shared(self):
        frames = Frames(2)
        space = Space(frames, pages=1)
        child = space.fork()
        child.write(0, 1)
        self.assertEqual([0] * 8, space.contents())
        self.assertEqual([None], space.table())
        space.write(0, 2)
        self.assertEqual([[0], [1]], [child.table(), space.table()])

    def test_forks_of_forks(self):
        frames = Frames(4)
        first = Space(frames, pages=1)
        first.write(0, 1)
        second = first.fork()
        third = second.fork()
        self.assertEqual(3, frames.holds(0))
        second.write(0, 2)
        third.write(0, 3)
        self.assertEqual([[0], [1], [2]], [space.table() for space in (first, second, third)])
        self.assertEqual([1, 2, 3], [space.read(0) for space in (first, second, third)])
        fourth = third.fork()
        third.close()
        self.assertEqual(1, frames.holds(2))
        fourth.write(0, 4)
        self.assertEqual([2], fourth.table())
        self.assertEqual([3], frames.free)


class FullTest(WardCase):
    def test_full_leaves_everything_as_it_was(self):
        frames = Frames(1)
        space = Space(frames, pages=2)
        space.write(0, 5)
        child = space.fork()
        before = seen(frames, space, child)
        for call in (lambda: space.write(0, 5), lambda: child.write(0, 6), lambda: space.write(8, 0),
                     lambda: space.__setitem__(0, 6), lambda: child.__setitem__(15, 1)):
            self.raised(Full, {"what": "frame"}, call)
            self.assertEqual(before, seen(frames, space, child))
        self.raised(BadArgument, {"name": "word"}, space.write, 8, 65536)
        child.close()
        space.write(0, 6)
        self.assertEqual([0, None], space.table())
        self.raised(Full, {"what": "frame"}, space.write, 8, 1)

    def test_fork_needs_no_free_frame(self):
        frames = Frames(1)
        space = Space(frames, pages=1)
        space.write(0, 5)
        self.assertEqual([], frames.free)
        self.assertEqual([5, 5], [space.fork().read(0), space.fork().fork().read(0)])


class ClosedTest(WardCase):
    def test_which_frames_are_free_behind_every_close(self):
        frames = Frames(4)
        space = Space(frames, pages=3)
        space.write(0, 1)
        space.write(16, 2)
        child = space.fork()
        child.write(0, 3)
        other = child.fork()
        self.assertEqual([3], frames.free)
        self.assertIsNone(space.close())
        self.assertEqual([0, 3], frames.free)
        self.assertIsNone(child.close())
        self.assertEqual([0, 3], frames.free)
        self.assertEqual([3, 0, 0, 0, 0, 0, 0, 0] + [0] * 8 + [2, 0, 0, 0, 0, 0, 0, 0], other.contents())
        other.close()
        self.assertEqual([0, 1, 2, 3], frames.free)

    def test_a_closed_space(self):
        frames = Frames(2)
        space = Space(frames, pages=2)
        space.write(0, 1)
        keeper = space.fork()
        space.close()
        before = seen(frames, keeper)
        calls = [lambda: space.read(0), lambda: space.write(15, 65535), lambda: space[15], space.contents,
                 lambda: space.__setitem__(0, 1), space.table, space.fork, space.close]
        for call in calls:
            self.raised(WrongState, {"what": "space"}, call)
            self.assertEqual(before, seen(frames, keeper))
        self.assertEqual(2, space.pages)
        self.same([False] * 4, [x in space for x in (0, 15, 16, None)])

    def test_wrong_arguments_go_ahead_of_a_closed_space(self):
        space = Space(Frames(1), pages=1)
        space.close()
        wrong = {"address": no_integers_of(0, 7), "word": NO_WORDS, "at": no_integers_of(0, 7)}
        self.refused(space.read, {"address": 0}, wrong)
        self.refused(space.write, {"address": 0, "word": 0}, wrong)
        for address in no_integers_of(0, 7):
            self.raised(BadArgument, {"name": "address"}, lambda: space[address])

    def test_closed_goes_ahead_of_full(self):
        frames = Frames(1)
        space = Space(frames, pages=1)
        space.close()
        frames.take()
        self.raised(WrongState, {"what": "space"}, space.write, 0, 1)


class SignsTest(WardCase):
    def test_reading_and_writing_by_index(self):
        frames = Frames(2)
        space = Space(frames, pages=2)
        space[0] = 65535
        space[15] = 0
        self.assertEqual([0, 1], space.table())
        self.assertEqual([65535, 0, 0], [space[0], space[15], space[7]])
        child = space.fork()
        self.raised(Full, {"what": "frame"}, child.__setitem__, 0, 1)

    def test_indexes_are_asked(self):
        frames = Frames(2)
        space = Space(frames, pages=2)
        space[0] = 1
        before = seen(frames, space)
        for address in no_integers_of(0, 15):
            self.raised(BadArgument, {"name": "address"}, lambda: space[address])
            self.raised(BadArgument, {"name": "address"}, space.__setitem__, address, 1)
            self.raised(BadArgument, {"name": "address"}, space.__setitem__, address, 65536)
        for word in NO_WORDS:
            self.raised(BadArgument, {"name": "word"}, space.__setitem__, 15, word)
        self.assertEqual(before, seen(frames, space))

    def test_in_for_every_plain_value(self):
        for pages in (1, 16):
            space = Space(Frames(1), pages=pages)
            self.same([True] * (8 * pages), [address in space for address in range(8 * pages)])
            for x in NO_INTEGERS + [-1, 8 * pages, 8 * pages + 1, 10 ** 12 - 1, [[None]], "address", ((1,), 2)]:
                self.assertIs(False, x in space, x)


class AskedTest(WardCase):
    def test_constructor_is_asked(self):
        frames = Frames(1)
        self.refused(Space, {"frames": frames, "pages": 1}, {"pages": no_integers_of(1, 16)}, lambda: seen(frames))

    def test_addresses_and_words_are_asked(self):
        for pages in (1, 3, 16):
            frames = Frames(3)
            space = Space(frames, pages=pages)
            space.write(1, 9)
            child = space.fork()
            wrong = {"address": no_integers_of(0, 8 * pages - 1), "word": NO_WORDS}
            for one in (space, child):
                self.refused(one.read, {"address": 0}, wrong, lambda: seen(frames, space, child))
                self.refused(one.write, {"address": 0, "word": 9}, wrong, lambda: seen(frames, space, child))

    def test_lists_are_not_handed_out(self):
        frames = Frames(1)
        space = Space(frames, pages=1)
        space.write(0, 5)
        space.table().append(3)
        space.table()[0] = None
        space.contents()[0] = 1
        self.assertEqual([0], space.table())
        self.assertEqual([5] + [0] * 7, space.contents())
        child = space.fork()
        child.table().clear()
        self.assertEqual([0], child.table())


class ModelTest(WardCase):
    def test_each_space_is_as_if_alone(self):
        for seed in range(6):
            chance = random.Random(seed)
            frames = Frames(chance.choice([2, 5, 12]))
            spaces = [(Space(frames, pages=3), [0] * 24)]
            for _ in range(300):
                self.one_call(chance, frames, spaces)
                self.agree(frames, spaces)
            for space, _ in spaces:
                space.close()
            self.assertEqual(list(range(frames.many)), frames.free)

    def one_call(self, chance, frames, spaces):
        space, words = chance.choice(spaces)
        act = chance.randrange(10)
        if act == 0 and len(spaces) < 6:
            spaces.append((space.fork(), list(words)))
        elif act == 1 and len(spaces) > 1:
            spaces.remove((space, words))
            space.close()
        else:
            self.one_write(space, words, frames, chance.randrange(24), chance.randrange(65536))

    def one_write(self, space, words, frames, address, word):
        """A write with the effect on the frames that [12] tells."""
        before, free = space.table(), frames.free
        old = before[address // 8]
        needed = old is None or frames.holds(old) > 1
        if needed and not free:
            self.raised(Full, {"what": "frame"}, space.write, address, word)
            self.assertEqual((before, free), (space.table(), frames.free))
            return
        space.write(address, word)
        words[address] = word
        after = before[:]
        after[address // 8] = free[0] if needed else old
        self.assertEqual(after, space.table())
        self.assertEqual(free[1:] if needed else free, frames.free)

    def agree(self, frames, spaces):
        counts = [0] * frames.many
        for space, words in spaces:
            self.assertEqual(words, space.contents())
            self.assertEqual(words, [space.read(address) for address in range(24)])
            for frame in space.table():
                if frame is not None:
                    counts[frame] += 1
        self.assertEqual(counts, [frames.holds(frame) for frame in range(frames.many)])


if __name__ == "__main__":
    unittest.main()
