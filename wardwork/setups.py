"""The setup of a world: what it starts with, and what is asked of that."""

from wardwork.checks import ask_range, is_in_range, is_list_of_words
from wardwork.errors import BadArgument
from wardwork.rights import are_marks


def ask_setup(setup):
    """Asks for the parts of a setup in their order; each is asked as the parameter of World with its name."""
    programs, pages, priorities, frames, slots, rooms, gates, blocks, roots = setup
    if not isinstance(programs, list) or not 1 <= len(programs) <= 8:
        raise BadArgument("programs")
    if not all(is_list_of_words(program, 0, 128) for program in programs):
        raise BadArgument("programs")
    ask_range("pages", pages, 1, 16)
    if any(len(program) > 8 * pages for program in programs):
        raise BadArgument("pages")
    _ask_numbers("priorities", priorities, 0, 7)
    ask_range("frames", frames, 1, 32)
    ask_range("slots", slots, 0, 64)
    _ask_numbers("rooms", rooms, 1, 16)
    _ask_numbers("gates", gates, 1, 8)
    ask_range("blocks", blocks, 0, 8)
    if not isinstance(roots, (list, tuple)) or len(roots) > 32:
        raise BadArgument("roots")
    things = things_of(rooms, gates, blocks)
    if not all(_is_root(root, len(programs), things) for root in roots):
        raise BadArgument("roots")


def whole_setup(setup):
    """A setup with one priority for each program, in lists that are new."""
    programs, pages, priorities, frames, slots, rooms, gates, blocks, roots = setup
    given = list(priorities[:len(programs)])
    given = given + [3] * (len(programs) - len(given))
    words = [list(program) for program in programs]
    return (words, pages, given, frames, slots, list(rooms), list(gates), blocks, list(roots))


def things_of(rooms, gates, blocks):
    """The things of a world with these pipes and gates and so many blocks."""
    things = [f"pipe:{number}" for number in range(len(rooms))]
    things.extend([f"gate:{number}" for number in range(len(gates))])
    things.extend([f"block:{number}" for number in range(blocks)])
    return things


def kind_of(thing):
    return thing.partition(":")[0]


def number_of(thing):
    """The number of the pipe, gate or block that a thing is."""
    return int(thing.partition(":")[2])


def _ask_numbers(name, numbers, least, most):
    """Asks for a list or a tuple of at most eight numbers."""
    if not isinstance(numbers, (list, tuple)) or len(numbers) > 8:
        raise BadArgument(name)
    if not all(is_in_range(number, least, most) for number in numbers):
        raise BadArgument(name)


def _is_root(x, many, things):
    if not isinstance(x, tuple) or len(x) != 3:
        return False
    pid, thing, marks = x
    return is_in_range(pid, 0, many - 1) and thing in things and are_marks(marks) and marks != ""
