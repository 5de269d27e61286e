"""Frames, [9]."""

import random
import unittest

from tests.cases import WardCase
from tests.values import no_integers_of, no_words_of, NO_WORDS
from wardwork.errors import BadArgument, Full, Unknown, WrongState
from wardwork.frames import Frames


def seen(frames):
    """All that a Frames object tells."""
    used = [frame for frame in range(frames.many) if frames.holds(frame) > 0]
    pages = [(frame, frames.holds(frame), frames.page(frame)) for frame in used]
    return (frames.many, frames.free, pages)


class MakingTest(WardCase):
    def test_at_first_all_frames_are_free(self):
        for many in (1, 2, 31, 96):
            frames = Frames(many)
            self.assertEqual(many, frames.many)
            self.assertEqual(list(range(many)), frames.free)
            self.assertEqual([0] * many, [frames.holds(frame) for frame in range(many)])
        self.assertEqual(3, Frames(many=3).many)

    def test_many_is_asked(self):
        self.refused(Frames, {"many": 1}, {"many": no_integers_of(1, 96)})


class TakingTest(WardCase):
    def test_take_gives_the_lowest_free_frame(self):
        frames = Frames(4)
        self.assertEqual([0, 1, 2, 3], [frames.take() for _ in range(4)])
        frames.drop(2)
        frames.drop(1)
        self.assertEqual([1, 2], frames.free)
        self.assertEqual(1, frames.take([1] * 8))
        self.assertEqual([2], frames.free)
        self.assertEqual(2, frames.take(words=[2] * 8))
        self.assertEqual([], frames.free)

    def test_take_writes_the_words_or_zeros(self):
        frames = Frames(2)
        self.assertEqual(0, frames.take([0, 1, 2, 3, 4, 5, 6, 65535]))
        self.assertEqual([0, 1, 2, 3, 4, 5, 6, 65535], frames.page(0))
        self.assertEqual([0, 65535], [frames.peek(0, 0), frames.peek(frame=0, offset=7)])
        frames.drop(0)
        self.assertEqual(0, frames.take())
        self.assertEqual([0] * 8, frames.page(0))
        frames.poke(0, 3, 9)
        frames.drop(0)
        self.assertEqual(0, frames.take(None))
        self.assertEqual([0] * 8, frames.page(0))
        self.assertEqual(1, frames.holds(0))

    def test_full(self):
        for many in (1, 96):
            frames = Frames(many)
            self.assertEqual(list(range(many)), [frames.take() for _ in range(many)])
            before = seen(frames)
            self.raised(Full, {"what": "frame"}, frames.take)
            self.raised(Full, {"what": "frame"}, frames.take, [1] * 8)
            self.raised(BadArgument, {"name": "words"}, frames.take, [1] * 7)
            self.assertEqual(before, seen(frames))
            self.assertTrue(frames.drop(many - 1))
            self.assertEqual(many - 1, frames.take())

    def test_words_are_asked(self):
        frames = Frames(2)
        frames.take()
        wrong = [words for words in no_words_of(8, 8) if words is not None]
        self.refused(frames.take, {"words": None}, {"words": wrong}, lambda: seen(frames))


class HoldsTest(WardCase):
    def test_share_and_drop_count(self):
        frames = Frames(2)
        frame = frames.take([7] * 8)
        self.assertIsNone(frames.share(frame))
        self.assertIsNone(frames.share(frame=frame))
        self.assertEqual(3, frames.holds(frame))
        self.assertEqual([1], frames.free)
        self.same([False, False, True], [frames.drop(frame), frames.drop(frame=frame), frames.drop(frame)])
        self.assertEqual(0, frames.holds(frame=frame))
        self.assertEqual([0, 1], frames.free)

    def test_poke_needs_a_single_hold(self):
        frames = Frames(1)
        frames.take()
        self.assertIsNone(frames.poke(0, 7, 65535))
        self.assertIsNone(frames.poke(frame=0, offset=0, word=1))
        self.assertEqual([1, 0, 0, 0, 0, 0, 0, 65535], frames.page(0))
        frames.share(0)
        before = seen(frames)
        self.raised(WrongState, {"what": 0}, frames.poke, 0, 7, 65535)
        self.raised(BadArgument, {"name": "word"}, frames.poke, 0, 7, 65536)
        self.assertEqual(before, seen(frames))
        self.assertEqual(65535, frames.peek(0, 7))
        frames.drop(0)
        frames.poke(0, 7, 2)
        self.assertEqual(2, frames.peek(0, 7))

    def test_free_frames_are_unknown(self):
        for many, frame in ((1, 0), (96, 95), (96, 0)):
            frames = Frames(many)
            for call, rest in ((frames.share, ()), (frames.drop, ()), (frames.peek, (0,)),
                               (frames.poke, (0, 1)), (frames.page, ())):
                self.raised(Unknown, {"what": frame}, call, frame, *rest)
            self.assertEqual(0, frames.holds(frame))
            self.assertEqual(list(range(many)), frames.free)

    def test_frames_offsets_and_words_are_asked(self):
        for many, used in ((1, 1), (1, 0), (96, 96), (5, 2), (5, 0)):
            frames = Frames(many)
            for _ in range(used):
                frames.share(frames.take([3] * 8))
            wrong = {"frame": no_integers_of(0, many - 1), "offset": no_integers_of(0, 7), "word": NO_WORDS}
            # With a free frame the wrong argument still goes ahead of Unknown and WrongState.
            for frame in (0, many - 1):
                for call in (frames.share, frames.drop, frames.page, frames.holds):
                    self.refused(call, {"frame": frame}, wrong, lambda: seen(frames))
                self.refused(frames.peek, {"frame": frame, "offset": 0}, wrong, lambda: seen(frames))
                right = {"frame": frame, "offset": 0, "word": 0}
                self.refused(frames.poke, right, wrong, lambda: seen(frames))


class ListsTest(WardCase):
    def test_lists_are_neither_kept_nor_handed_out(self):
        frames = Frames(2)
        words = [1, 2, 3, 4, 5, 6, 7, 8]
        frames.take(words)
        words[0] = 99
        self.assertEqual(1, frames.peek(0, 0))
        frames.page(0).clear()
        frames.page(0)[1] = 99
        self.assertEqual([1, 2, 3, 4, 5, 6, 7, 8], frames.page(0))
        frames.free.clear()
        frames.free.append(0)
        self.assertEqual([1], frames.free)
        frames.take()
        frames.poke(0, 0, 5)
        self.assertEqual([99, 2, 3, 4, 5, 6, 7, 8], words)
        self.assertEqual([0] * 8, frames.page(1))


class ModelTest(WardCase):
    def test_random_calls_agree_with_a_model(self):
        chance = random.Random(9)
        for many in (1, 3, 8):
            frames = Frames(many)
            model = {}
            for _ in range(400):
                self.one_call(chance, frames, model)
                free = [frame for frame in range(many) if frame not in model]
                pages = [(frame, *model[frame]) for frame in sorted(model)]
                self.assertEqual((many, free, pages), seen(frames))

    def one_call(self, chance, frames, model):
        frame = chance.randrange(frames.many)
        name = chance.choice(["take", "take", "share", "drop", "drop", "poke"])
        if name == "take":
            words = [chance.randrange(65536) for _ in range(8)]
            if len(model) == frames.many:
                self.raised(Full, {"what": "frame"}, frames.take, words)
            else:
                lowest = min(set(range(frames.many)) - set(model))
                self.assertEqual(lowest, frames.take(words))
                model[lowest] = (1, words)
        elif frame not in model:
            rest = (0, 0) if name == "poke" else ()
            self.raised(Unknown, {"what": frame}, getattr(frames, name), frame, *rest)
        elif name == "poke":
            self.model_poke(chance.randrange(8), frame, frames, model)
        else:
            holds, words = model.pop(frame)
            holds += 1 if name == "share" else -1
            told = getattr(frames, name)(frame)
            self.same(holds == 0 if name == "drop" else None, told)
            if holds > 0:
                model[frame] = (holds, words)

    def model_poke(self, offset, frame, frames, model):
        holds, words = model[frame]
        if holds > 1:
            self.raised(WrongState, {"what": frame}, frames.poke, frame, offset, 5)
        else:
            frames.poke(frame, offset, 5)
            model[frame] = (1, words[:offset] + [5] + words[offset + 1:])


if __name__ == "__main__":
    unittest.main()
