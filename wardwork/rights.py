"""Rights: who may do what with which thing, handed on, narrowed and taken back; chains that show why."""

from wardwork.checks import DIGITS, LETTERS, ask_range, is_in_range, is_integer
from wardwork.errors import BadArgument, Full, NotAllowed, Unknown

# All marks; the index of each is the sum of 4 for r, 2 for w and 1 for g.
MARKS = ("", "g", "w", "wg", "r", "rg", "rw", "rwg")

_MOST = 100


class Rights:
    """Numbered rights. A right is a tuple (number, holder, thing, marks, above)."""

    def __init__(self):
        # The live rights, in ascending order of their numbers.
        self._live = []
        self._made = 0

    def root(self, holder, thing, marks="rwg"):
        ask_range("holder", holder, 0, 7)
        _ask_thing(thing)
        _ask_some_marks(marks)
        return self._new(holder, thing, marks, None)

    def hand_on(self, number, to, marks):
        _ask_number(number)
        ask_range("to", to, 0, 7)
        _ask_some_marks(marks)
        thing, given = self._right(number)[2:4]
        if "g" not in given or not are_within(marks, given):
            raise NotAllowed(number)
        return self._new(to, thing, marks, number)

    def narrow(self, number, marks=""):
        _ask_number(number)
        _ask_marks(marks)
        if not are_within(marks, self._right(number)[3]):
            raise NotAllowed(number)
        return self._leave_only(number, marks)

    def take_back(self, number):
        _ask_number(number)
        self._right(number)
        return self._leave_only(number, "")

    def row(self, number):
        _ask_number(number)
        return self._right(number)

    def rows(self):
        return list(self._live)

    def held(self, holder):
        ask_range("holder", holder, 0, 7)
        return [row[0] for row in self._live if row[1] == holder]

    def may(self, holder, thing, mark):
        _ask_use(holder, thing, mark)
        return holder in self._holders_with(thing, mark)

    def who(self, thing, mark):
        _ask_thing(thing)
        _ask_mark(mark)
        return sorted(set(self._holders_with(thing, mark)))

    def above(self, number):
        _ask_number(number)
        self._right(number)
        chain = _way_to(self._live, number)
        return chain[-2::-1]

    def state(self):
        return (self._made, self.rows())

    def __contains__(self, x):
        return is_integer(x) and x in [row[0] for row in self._live]

    def __iter__(self):
        return iter(self._live)

    @staticmethod
    def restored(state):
        made, rows = state
        rights = Rights()
        rights._made = made
        rights._live = list(rows)
        return rights

    def _new(self, holder, thing, marks, above):
        if self._made == _MOST:
            raise Full("rights")
        number = self._made
        self._made += 1
        self._live.append((number, holder, thing, marks, above))
        return number

    def _right(self, number):
        for row in self._live:
            if row[0] == number:
                return row
        raise Unknown(number)

    def _holders_with(self, thing, mark):
        return [row[1] for row in self._live if row[2] == thing and mark in row[3]]

    def _leave_only(self, number, marks):
        """Leaves the right only these marks; returns the numbers of the rights that are gone by that."""
        beneath = self._beneath(number)
        live = []
        gone = []
        for row in self._live:
            left = row[3]
            if row[0] == number:
                left = marks
            elif row[0] in beneath:
                left = _common(left, marks) if "g" in marks else ""
            if left == "":
                gone.append(row[0])
            else:
                live.append((*row[:3], left, row[4]))
        self._live = live
        return gone

    def _beneath(self, number):
        beneath = []
        # A right is made after the one above it, so it stands behind it.
        for row in self._live:
            if row[4] == number or row[4] in beneath:
                beneath.append(row[0])
        return beneath


def find_chain(rows, holder, thing, mark):
    _ask_use(holder, thing, mark)
    for row in rows:
        if row[1] == holder and row[2] == thing and mark in row[3]:
            return _way_to(rows, row[0])
    return []


def is_chain(chain, rows, roots, holder, thing, mark):
    if not isinstance(chain, list) or len(chain) == 0 or not all(is_integer(number) for number in chain):
        return False
    table = {row[0]: row for row in rows}
    if not all([number in table for number in chain]):
        return False
    links = [table[number] for number in chain]
    if not _is_root(links[0], roots):
        return False
    if not all([_is_handed_on(row, after) for row, after in zip(links, links[1:])]):
        return False
    last = links[-1]
    return last[1] == holder and last[2] == thing and mark in last[3]


def is_book(rows, roots):
    if not isinstance(rows, list) or not all(_is_row(row) for row in rows):
        return False
    if not all(row[0] < after[0] for row, after in zip(rows, rows[1:])):
        return False
    for number, holder, thing, marks, _ in rows:
        chain = _way_to(rows, number)
        if not all([is_chain(chain, rows, roots, holder, thing, mark) for mark in marks]):
            return False
    return True


def is_thing(x):
    return isinstance(x, str) and 1 <= len(x) <= 120 and all(
        sign in LETTERS or sign in DIGITS or sign in "/:" for sign in x)


def are_marks(x):
    return x in MARKS


def are_within(marks, others):
    return all(mark in others for mark in marks)


def _ask_number(number):
    ask_range("number", number, 0, _MOST - 1)


def _ask_use(holder, thing, mark):
    ask_range("holder", holder, 0, 7)
    _ask_thing(thing)
    _ask_mark(mark)


def _ask_thing(thing):
    if not is_thing(thing):
        raise BadArgument("thing")


def _ask_mark(mark):
    if not are_marks(mark) or len(mark) != 1:
        raise BadArgument("mark")


def _ask_marks(marks):
    if not are_marks(marks):
        raise BadArgument("marks")


def _ask_some_marks(marks):
    _ask_marks(marks)
    if marks == "":
        raise BadArgument("marks")


def _common(marks, others):
    return "".join([mark for mark in marks if mark in others])


def _way_to(rows, number):
    """The numbers from the root right on to this one, as far as the rows tell what is above."""
    above = {row[0]: row[4] for row in rows}
    way = []
    # In a list that is no book, rights may stand above each other in a ring.
    while number in above and number not in way:
        way.append(number)
        number = above[number]
    return way[::-1]


def _is_root(row, roots):
    number, holder, thing, marks, above = row
    if above is not None:
        return False
    return any([root[:3] == (number, holder, thing) and are_within(marks, root[3]) for root in roots])


def _is_handed_on(row, after):
    """Tells whether the later row may come from the row ahead of it in a chain."""
    return after[4] == row[0] and after[2] == row[2] and "g" in row[3] and are_within(after[3], row[3])


def _is_row(x):
    if not isinstance(x, tuple) or len(x) != 5:
        return False
    number, holder, thing, marks, above = x
    if not is_in_range(number, 0, _MOST - 1) or not is_in_range(holder, 0, 7):
        return False
    if not is_thing(thing) or not are_marks(marks) or marks == "":
        return False
    return above is None or is_in_range(above, 0, _MOST - 1)
