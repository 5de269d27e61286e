"""Histories of worlds: views, logs and records, and whether they are right."""

from wardwork.checks import are_words, ask_range, is_in_range, is_list_of_words, is_pair, is_word
from wardwork.errors import BadArgument
from wardwork.machine import is_core, run_alone
from wardwork.pipes import Pipe
from wardwork.requests import ACQUIRE, FETCH, NEEDED, RECEIVE, RELEASE, SEND
from wardwork.setups import kind_of, number_of, things_of
from wardwork.world import World

# The most steps, answers and requests of a view that is judged.
_MOST = 2000


def is_view(view):
    if not isinstance(view, tuple) or len(view) != 8 or not _has_kinds(view):
        return False
    start, before, answers, asked, steps, ending, core, contents = view
    unanswered = 1 if ending == "asks" else 0
    if len(answers) + unanswered != len(asked):
        return False
    # A halt or a fault comes in a step that is not counted.
    limit = steps if ending in ("limit", "asks") else steps + 1
    return run_alone(start, before, answers, limit=limit) == (ending, steps, core, contents, asked)


def project(log, pid):
    ask_range("pid", pid, 0, 7)
    rows = [row for row in log if row[0] == pid and row[1] is not None]
    return ([row[1] for row in rows], [row[2] for row in rows])


def is_told(log, *, rooms, gates, blocks):
    if not isinstance(log, list):
        return False
    walk = Walk(rooms, gates, blocks)
    for row in log:
        if not walk.takes(row):
            return False
    return True


def replay(setup, record):
    world = World.built(setup)
    for row in record:
        world.do(row[0])
    return world


def is_record(record, setup):
    if not isinstance(record, list) or len(record) > 200:
        return False
    world = World.built(setup)
    for row in record:
        if not isinstance(row, tuple) or len(row) != 4 or not _is_next(world, row):
            return False
    return True


class Walk:
    """The pipes, gates and blocks of a setup, as the rows of a log leave them one behind the other."""

    def __init__(self, rooms, gates, blocks):
        self._things = things_of(rooms, gates, blocks)
        self._pipes = [Pipe(room) for room in rooms]
        self._seats = list(gates)
        self._holders = [[] for _ in gates]
        self._blocks = [[0] * 8 for _ in range(blocks)]
        self._gone = []

    def takes(self, row):
        """Does what the row tells; tells whether it keeps the rules. A row that does not ends the walk."""
        if not isinstance(row, tuple) or len(row) != 4:
            return False
        pid, request, answer, thing = row
        if pid in self._gone or not (pid is None or is_in_range(pid, 0, 7)):
            return False
        if row[1:] == (None, None, None):
            return pid is not None and self._end(pid)
        if not _is_request(request) or not _is_answer(answer):
            return False
        if pid is None and not _is_from_outside(request, answer):
            return False
        if request[0] not in NEEDED or answer[0] == 0:
            return thing is None
        if thing not in self._things or kind_of(thing) != NEEDED[request[0]][0]:
            return False
        return self._has_effect(pid, request, answer[1], number_of(thing))

    def _end(self, pid):
        self._gone.append(pid)
        self._holders = [[holder for holder in holders if holder != pid] for holders in self._holders]
        return True

    def _has_effect(self, pid, request, y, number):
        n = request[0]
        c, d = request[3:]
        if n == SEND:
            return y == 0 and self._pipes[number].send(c)
        if n == RECEIVE:
            return self._pipes[number].receive() == y
        if n in (ACQUIRE, RELEASE):
            return y == 0 and self._takes_seat(pid, n, number)
        if c > 7:
            return False
        if n == FETCH:
            return self._blocks[number][c] == y
        self._blocks[number][c] = d
        return y == 0

    def _takes_seat(self, pid, n, gate):
        holders = self._holders[gate]
        if n == RELEASE:
            if pid not in holders:
                return False
            holders.remove(pid)
            return True
        if pid in holders or len(holders) == self._seats[gate]:
            return False
        holders.append(pid)
        return True


def _has_kinds(view):
    """Tells whether each part of a view has the right kind and size."""
    start, before, answers, asked, steps, _, core, contents = view
    if not is_core(start) or not is_core(core) or not is_in_range(steps, 0, _MOST):
        return False
    if not is_list_of_words(before, 8, 128) or len(before) % 8 != 0 or not is_list_of_words(contents, 8, 128):
        return False
    if not isinstance(answers, list) or len(answers) > _MOST or not isinstance(asked, list) or len(asked) > _MOST:
        return False
    return all(is_pair(answer) and are_words(answer) for answer in answers) and all(
        _is_request(request) for request in asked)


def _is_request(x):
    return isinstance(x, tuple) and len(x) == 5 and is_in_range(x[0], 0, 1023) and are_words(x[1:])


def _is_answer(x):
    if not is_pair(x) or not is_word(x[0]):
        return False
    return is_word(x[1]) if x[0] == 1 else x[0] == 0 and is_in_range(x[1], 1, 6)


def _is_from_outside(request, answer):
    """Tells whether a row without a process may be a put or a pull, but for its thing."""
    if request == (SEND, 0, 0, request[3], 0):
        return answer == (1, 0)
    return request == (RECEIVE, 0, 0, 0, 0) and answer[0] == 1


def _is_next(world, row):
    """Does the event of a record row; tells whether the world makes the same row of it."""
    try:
        told = world.do(row[0])
    except BadArgument:
        return False
    # True is equal to 1, but it is another kind of value.
    return row == told and not any(isinstance(part, bool) for part in row)
