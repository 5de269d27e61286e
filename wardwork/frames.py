"""Frames: pages of eight words that may have several holders."""

from wardwork.checks import ask_range, ask_word, ask_words
from wardwork.errors import Full, Unknown, WrongState


class Frames:
    """A number of frames, each of which holds one page and counts its holds."""

    def __init__(self, many):
        ask_range("many", many, 1, 96)
        self._holds = [0] * many
        self._pages = [None] * many

    @property
    def many(self):
        return len(self._holds)

    @property
    def free(self):
        return [frame for frame, holds in enumerate(self._holds) if holds == 0]

    def take(self, words=None):
        if words is not None:
            ask_words("words", words, 8, 8)
        free = self.free
        if not free:
            raise Full("frame")
        frame = free[0]
        self._pages[frame] = [0] * 8 if words is None else list(words)
        self._holds[frame] = 1
        return frame

    def share(self, frame):
        self._ask_frame(frame)
        self._ask_used(frame)
        self._holds[frame] += 1

    def drop(self, frame):
        self._ask_frame(frame)
        self._ask_used(frame)
        self._holds[frame] -= 1
        return self._holds[frame] == 0

    def peek(self, frame, offset):
        self._ask_frame(frame)
        ask_range("offset", offset, 0, 7)
        self._ask_used(frame)
        return self._pages[frame][offset]

    def poke(self, frame, offset, word):
        self._ask_frame(frame)
        ask_range("offset", offset, 0, 7)
        ask_word("word", word)
        self._ask_used(frame)
        if self._holds[frame] > 1:
            raise WrongState(frame)
        self._pages[frame][offset] = word

    def page(self, frame):
        self._ask_frame(frame)
        self._ask_used(frame)
        return list(self._pages[frame])

    def holds(self, frame):
        self._ask_frame(frame)
        return self._holds[frame]

    def _ask_frame(self, frame):
        ask_range("frame", frame, 0, len(self._holds) - 1)

    def _ask_used(self, frame):
        if self._holds[frame] == 0:
            raise Unknown(frame)
