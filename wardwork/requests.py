"""The requests of processes: what speaks against each, and what it does."""

from wardwork.errors import Full
from wardwork.rights import MARKS, are_within
from wardwork.setups import kind_of, number_of

REST = 0
SEND = 3
RECEIVE = 4
ACQUIRE = 5
RELEASE = 6
FETCH = 7
# The requests for which a right on a thing is needed, with the kind of the thing and the mark.
NEEDED = {
    3: ("pipe", "w"), 4: ("pipe", "r"), 5: ("gate", "w"), 6: ("gate", ""), 7: ("block", "r"), 8: ("block", "w"),
}

_HAND = 9
_RECALL = 10
_NARROW = 11
_LAST = 12


def answer_at_once(kernel, process):
    """Does what the request of the process asks; returns the answer, or None if the process has to wait.

    A release is only judged here: it has to be done behind its answer.
    """
    reason = _reason_against(kernel, process)
    if reason > 0:
        return (0, reason)
    action = _ACTIONS[process.request[0]]
    return action(kernel, process)


def answer_late(kernel, process):
    """Answers the request of a waiting process as things stand now; None if it cannot be answered."""
    number, thing = right_asked(process)
    if number not in kernel.book:
        return (0, 1)
    if NEEDED[process.request[0]][1] not in kernel.book.row(number)[3]:
        return (0, 2)
    if process.request[0] == ACQUIRE:
        return None
    action = _ACTIONS[process.request[0]]
    return action(kernel, process)


def right_asked(process):
    """The number and the thing of the right with which the process asks."""
    return process.grants[process.request[2]]


def _reason_against(kernel, process):
    """The reason 6, 1 or 2, whichever applies first, or 0."""
    n = process.request[0]
    b, c, d = process.request[2:]
    if n > _LAST:
        return 6
    if n == _RECALL:
        return 0 if b < len(process.gifts) and process.gifts[b] in kernel.book else 1
    if n not in NEEDED and n not in (_HAND, _NARROW):
        return 0
    if b >= len(process.grants):
        return 1
    number, thing = process.grants[b]
    if n == RELEASE:
        return 0 if kind_of(thing) == "gate" else 2
    if number not in kernel.book:
        return 1
    marks = kernel.book.row(number)[3]
    if n == _HAND:
        fits = "g" in marks and 1 <= d <= 7 and are_within(MARKS[d], marks)
    elif n == _NARROW:
        fits = c <= 7 and are_within(MARKS[c], marks)
    else:
        fits = kind_of(thing) == NEEDED[n][0] and NEEDED[n][1] in marks
    return 0 if fits else 2


def _number_asked(process):
    return number_of(right_asked(process)[1])


def _rest(kernel, process):
    return (1, 0)


def _tell_self(kernel, process):
    return (1, process.pid)


def _tell_handles(kernel, process):
    return (1, len(process.grants))


def _send(kernel, process):
    if kernel.pipes[_number_asked(process)].send(process.request[3]):
        return (1, 0)
    return (0, 5) if kernel.is_closed(process, "r") else None


def _receive(kernel, process):
    word = kernel.pipes[_number_asked(process)].receive()
    if word is not None:
        return (1, word)
    return (0, 5) if kernel.is_closed(process, "w") else None


def _acquire(kernel, process):
    gate = _number_asked(process)
    if process.pid in kernel.gates.holders(gate):
        return (0, 4)
    return (1, 0) if kernel.gates.acquire(process.pid, gate) else None


def _release(kernel, process):
    held = process.pid in kernel.gates.holders(_number_asked(process))
    return (1, 0) if held else (0, 4)


def _fetch(kernel, process):
    offset = process.request[3]
    return (0, 4) if offset > 7 else (1, kernel.blocks[_number_asked(process)][offset])


def _keep(kernel, process):
    offset, word = process.request[3:]
    if offset > 7:
        return (0, 4)
    kernel.blocks[_number_asked(process)][offset] = word
    return (1, 0)


def _hand(kernel, process):
    to, marks = process.request[3:]
    number, thing = right_asked(process)
    if not kernel.is_living(to):
        return (0, 4)
    try:
        gift = kernel.book.hand_on(number, to, MARKS[marks])
    except Full:
        return (0, 3)
    process.gifts.append(gift)
    kernel.processes[to].grants.append((gift, thing))
    return (1, len(process.gifts) - 1)


def _recall(kernel, process):
    return (1, len(kernel.book.take_back(process.gifts[process.request[2]])))


def _narrow(kernel, process):
    number, thing = right_asked(process)
    return (1, len(kernel.book.narrow(number, MARKS[process.request[3]])))


def _fork(kernel, process):
    if len(kernel.processes) == 8:
        return (0, 3)
    try:
        return (1, kernel.fork(process))
    except Full:
        return (0, 3)


_ACTIONS = {
    0: _rest, 1: _tell_self, 2: _tell_handles, 3: _send, 4: _receive, 5: _acquire, 6: _release, 7: _fetch, 8: _keep,
    9: _hand, 10: _recall, 11: _narrow, 12: _fork,
}
