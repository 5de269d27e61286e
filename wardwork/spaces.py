"""Memories: Plain keeps its words in a list, Space in shared frames."""

from wardwork.checks import ask_first_words, ask_range, ask_word, is_in_range
from wardwork.errors import WrongState


class Plain:
    """A memory that keeps its words in one list."""

    def __init__(self, pages, words=()):
        ask_range("pages", pages, 1, 16)
        ask_first_words("words", words, 8 * pages)
        self._words = list(words) + [0] * (8 * pages - len(words))

    @property
    def pages(self):
        return len(self._words) // 8

    def read(self, address):
        ask_range("address", address, 0, len(self._words) - 1)
        return self._words[address]

    def write(self, address, word):
        ask_range("address", address, 0, len(self._words) - 1)
        ask_word("word", word)
        self._words[address] = word

    def contents(self):
        return list(self._words)


class Space:
    """A memory whose pages are blank or have a frame, which several spaces may share."""

    def __init__(self, frames, *, pages=4):
        ask_range("pages", pages, 1, 16)
        self._frames = frames
        self._table = [None] * pages
        self._closed = False

    @property
    def pages(self):
        return len(self._table)

    def read(self, address):
        return self._word_at(address)

    def write(self, address, word):
        self._ask_address(address)
        ask_word("word", word)
        self._ask_unclosed()
        frame = self._own_frame(address // 8)
        self._frames.poke(frame, address % 8, word)

    def contents(self):
        self._ask_unclosed()
        words = []
        for frame in self._table:
            words.extend([0] * 8 if frame is None else self._frames.page(frame))
        return words

    def table(self):
        self._ask_unclosed()
        return list(self._table)

    def fork(self):
        self._ask_unclosed()
        child = Space(self._frames, pages=len(self._table))
        child._table = list(self._table)
        for frame in self._table:
            if frame is not None:
                self._frames.share(frame)
        return child

    def close(self):
        self._ask_unclosed()
        self._closed = True
        for frame in self._table:
            if frame is not None:
                self._frames.drop(frame)

    def __getitem__(self, at):
        return self._word_at(at)

    def __setitem__(self, at, worth):
        self.write(at, worth)

    def __contains__(self, x):
        return not self._closed and is_in_range(x, 0, 8 * len(self._table) - 1)

    def __iter__(self):
        raise TypeError("a Space is not iterated over")

    def _word_at(self, address):
        self._ask_address(address)
        self._ask_unclosed()
        frame = self._table[address // 8]
        if frame is None:
            return 0
        return self._frames.peek(frame, address % 8)

    def _own_frame(self, page):
        """The frame of the page, after it was made one that nobody else holds."""
        frame = self._table[page]
        if frame is not None and self._frames.holds(frame) == 1:
            return frame
        # A new frame is taken before the old one is dropped, so that Full changes nothing.
        if frame is None:
            own = self._frames.take()
        else:
            own = self._frames.take(self._frames.page(frame))
            self._frames.drop(frame)
        self._table[page] = own
        return own

    def _ask_address(self, address):
        ask_range("address", address, 0, 8 * len(self._table) - 1)

    def _ask_unclosed(self):
        if self._closed:
            raise WrongState("space")
