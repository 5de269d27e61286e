"""The journal of a disk: several home blocks are written as one deed, whatever stops the disk."""

from wardwork.checks import are_different, is_in_range, is_list_of_words, is_pair
from wardwork.disk import ask_image
from wardwork.errors import BadArgument, WrongState

# Block 0 is the header, the blocks ahead of this one are the log, and the others are home blocks.
FIRST_HOME = 8

_CLEAR = (0, 0, 0, 0, 0, 0, 0, 0)


def commit(disk, changes):
    _ask_changes(changes, len(disk.image()))
    if disk.read(0) != list(_CLEAR):
        raise WrongState("journal")
    if not changes:
        return
    for place, (block, words) in enumerate(changes, start=1):
        disk.write(place, words)
    disk.write(0, _header_of([block for block, words in changes]))
    _write_home(disk, changes)


def recover(disk):
    moves = pending(disk)
    if moves:
        _write_home(disk, moves)
    return [block for block, words in moves]


def pending(disk):
    return _moves_of(disk.image())


def settled(image):
    ask_image(image)
    after = [list(words) for words in image]
    for block, words in _moves_of(image):
        after[block] = words
    after[0] = list(_CLEAR)
    return after


def is_recovery(certificate, before, after):
    blocks = _blocks_told(before)
    if blocks is None or certificate != blocks:
        return False
    return after == settled(before)


def _ask_changes(changes, many):
    """Asks for a list of pairs of different home blocks, of a disk with so many blocks, and their words."""
    if not isinstance(changes, list) or len(changes) > FIRST_HOME - 1:
        raise BadArgument("changes")
    if not all(_is_change(change, many) for change in changes):
        raise BadArgument("changes")
    if not are_different([block for block, words in changes]):
        raise BadArgument("changes")


def _is_change(x, many):
    return is_pair(x) and is_in_range(x[0], FIRST_HOME, many - 1) and is_list_of_words(x[1], 8, 8)


def _header_of(blocks):
    return [len(blocks), *blocks] + [0] * (FIRST_HOME - 1 - len(blocks))


def _write_home(disk, moves):
    """Writes the home blocks and then the clear header, so that a stop between them loses nothing."""
    for block, words in moves:
        disk.write(block, words)
    disk.write(0, list(_CLEAR))


def _blocks_told(image):
    """The home blocks of the header, none of a clear one, or None if the header is damaged."""
    header = image[0]
    # If the count is too great, these are fewer blocks, and the header is not theirs.
    blocks = header[1:header[0] + 1]
    if header != _header_of(blocks) or not are_different(blocks):
        return None
    if not all(is_in_range(block, FIRST_HOME, len(image) - 1) for block in blocks):
        return None
    return blocks


def _moves_of(image):
    """The pairs of a home block and the words that the log has for it."""
    blocks = _blocks_told(image)
    if blocks is None:
        raise WrongState("journal")
    return [(block, list(image[place])) for place, block in enumerate(blocks, start=1)]
