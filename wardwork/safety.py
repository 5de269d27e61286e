"""Safe orders and stuck lists, and a banker that lends units so that a safe order always exists."""

from wardwork.checks import are_different, is_in_range
from wardwork.errors import BadArgument


def find_safe_order(free, held, wanted):
    order = _order_of_ends(free, held, wanted)
    return order if len(order) == len(held) else None


def is_safe_order(order, free, held, wanted):
    if not are_different(order) or sorted(order) != list(range(len(held))):
        return False
    there = free
    for who in order:
        if not _covers(there, wanted[who]):
            return False
        there = _sum_of(there, held[who])
    return True


def find_stuck(free, held, wanted):
    order = _order_of_ends(free, held, wanted)
    return [who for who in range(len(held)) if who not in order]


def is_stuck(stuck, free, held, wanted):
    if not are_different(stuck) or len(stuck) == 0:
        return False
    if not all([0 <= who < len(held) for who in stuck]):
        return False
    there = free
    for who, amount in enumerate(held):
        if who not in stuck:
            there = _sum_of(there, amount)
    return not any([_covers(there, wanted[who]) for who in stuck])


class Banker:
    """Lends units of a total to processes, each of which has claimed the most that it will ever hold."""

    def __init__(self, total, claims):
        if not _is_amount(total):
            raise BadArgument("total")
        if not isinstance(claims, list) or len(claims) > 8:
            raise BadArgument("claims")
        if not all([_is_part_of(total, claim) for claim in claims]):
            raise BadArgument("claims")
        self._left = list(total)
        self._claims = [list(claim) for claim in claims]
        self._lent = [[0] * len(total) for _ in claims]

    @property
    def free(self):
        return list(self._left)

    def ask(self, who, amount):
        self._ask_process(who)
        if not _is_part_of(self.wanted()[who], amount):
            raise BadArgument("amount")
        if not _covers(self._left, amount):
            return False
        left = _difference_of(self._left, amount)
        lent = self.held()
        lent[who] = _sum_of(lent[who], amount)
        if find_safe_order(left, lent, self._missing(lent)) is None:
            return False
        self._left = left
        self._lent = lent
        return True

    def give(self, who, amount):
        self._ask_process(who)
        if not _is_part_of(self._lent[who], amount):
            raise BadArgument("amount")
        self._left = _sum_of(self._left, amount)
        self._lent[who] = _difference_of(self._lent[who], amount)

    def held(self):
        return [list(amount) for amount in self._lent]

    def wanted(self):
        return self._missing(self._lent)

    def order(self):
        return find_safe_order(self._left, self._lent, self.wanted())

    def _ask_process(self, who):
        if not is_in_range(who, 0, len(self._claims) - 1):
            raise BadArgument("who")

    def _missing(self, lent):
        """What each process needs more, if this is lent."""
        return [_difference_of(claim, amount) for claim, amount in zip(self._claims, lent)]


def _is_amount(x):
    return isinstance(x, list) and 1 <= len(x) <= 4 and all(is_in_range(part, 0, 999) for part in x)


def _is_part_of(amount, x):
    """Tells whether the value is an amount of the same kinds that the amount covers."""
    return _is_amount(x) and len(x) == len(amount) and _covers(amount, x)


def _covers(amount, other):
    return all(most >= part for most, part in zip(amount, other))


def _sum_of(amount, other):
    return [part + more for part, more in zip(amount, other)]


def _difference_of(amount, other):
    return [part - less for part, less in zip(amount, other)]


def _order_of_ends(free, held, wanted):
    """The processes that can end; the least one that may stand next always stands next."""
    there = free
    order = []
    while True:
        after = _least_next(there, wanted, order)
        if after is None:
            return order
        order.append(after)
        there = _sum_of(there, held[after])


def _least_next(there, wanted, order):
    for who, amount in enumerate(wanted):
        if who not in order and _covers(there, amount):
            return who
    return None
