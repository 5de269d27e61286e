"""A disk of blocks that may stop after a number of writes."""

from wardwork.checks import ask_range, ask_words, is_in_range, is_list_of_words
from wardwork.errors import BadArgument, Stopped


class Disk:
    """Blocks of eight words. A write is done whole or not at all."""

    def __init__(self, blocks, *, stop=None):
        ask_range("blocks", blocks, 9, 64)
        if stop is not None and not is_in_range(stop, 0, 9999):
            raise BadArgument("stop")
        self._blocks = [[0] * 8 for _ in range(blocks)]
        self._stop = stop
        self._done = 0

    @property
    def writes(self):
        return self._done

    def read(self, block):
        self._ask_block(block)
        return list(self._blocks[block])

    def write(self, block, words):
        self._ask_block(block)
        ask_words("words", words, 8, 8)
        if self._done == self._stop:
            raise Stopped(self._done)
        self._blocks[block] = list(words)
        self._done += 1

    def image(self):
        return [list(words) for words in self._blocks]

    @staticmethod
    def loaded(image, *, stop=None):
        ask_image(image)
        disk = Disk(len(image), stop=stop)
        disk._blocks = [list(words) for words in image]
        return disk

    def _ask_block(self, block):
        ask_range("block", block, 0, len(self._blocks) - 1)


def ask_image(image):
    """Asks for the list of all blocks of a disk."""
    if not isinstance(image, list) or not 9 <= len(image) <= 64:
        raise BadArgument("image")
    if not all(is_list_of_words(words, 8, 8) for words in image):
        raise BadArgument("image")
