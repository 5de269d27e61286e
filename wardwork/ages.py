"""The scheduler: whoever waits grows older, and the greatest priority and age together is picked."""

from wardwork.checks import ask_range, ask_truth, is_integer
from wardwork.errors import Taken, Unknown, WardError

# The rows of a pick log, each with the number of its parts.
_ROWS = {"enter": 3, "leave": 2, "wake": 2, "sleep": 2, "lend": 3, "pick": 2}


class Ages:
    """Members with a base priority, a lent priority and an age, each of them ready or asleep."""

    def __init__(self):
        # For each pid the list [base, lent, ready, age].
        self._members = {}

    def enter(self, pid, priority=3, *, ready=True):
        ask_range("pid", pid, 0, 7)
        ask_range("priority", priority, 0, 7)
        ask_truth("ready", ready)
        if pid in self._members:
            raise Taken(pid)
        self._members[pid] = [priority, 0, ready, 0]

    def leave(self, pid):
        self._ask_member(pid)
        del self._members[pid]

    def wake(self, pid):
        self._ask_member(pid)
        # A sleeping member has the age 0 already.
        self._members[pid][2] = True

    def sleep(self, pid):
        self._ask_member(pid)
        self._members[pid][2] = False
        self._members[pid][3] = 0

    def lend(self, pid, priority=0):
        ask_range("pid", pid, 0, 7)
        ask_range("priority", priority, 0, 7)
        self._ask_member(pid)
        self._members[pid][1] = priority

    def pick(self):
        ready = [pid for pid in sorted(list(self._members)) if self._members[pid][2]]
        if not ready:
            return None
        # The first one of several is taken, and the pids ascend.
        picked = max(ready, key=self._standing)
        for pid in ready:
            self._members[pid][3] += 1
        self._members[picked][3] = 0
        return picked

    def priority(self, pid):
        self._ask_member(pid)
        return self._effective(pid)

    def age(self, pid):
        self._ask_member(pid)
        return self._members[pid][3]

    def rows(self):
        return [(pid, *self._members[pid]) for pid in sorted(list(self._members))]

    def state(self):
        return self.rows()

    def __contains__(self, x):
        return is_integer(x) and x in self._members

    @staticmethod
    def bound(priority, count=8):
        ask_range("priority", priority, 0, 7)
        ask_range("count", count, 1, 8)
        return 6 - priority + count

    @staticmethod
    def restored(state):
        ages = Ages()
        for pid, *member in state:
            ages._members[pid] = member
        return ages

    def _ask_member(self, pid):
        ask_range("pid", pid, 0, 7)
        if pid not in self._members:
            raise Unknown(pid)

    def _effective(self, pid):
        return max(self._members[pid][0], self._members[pid][1])

    def _standing(self, pid):
        return self._effective(pid) + self._members[pid][3]


def is_pick_log(log):
    if not isinstance(log, list) or len(log) > 300:
        return False
    ages = Ages()
    for row in log:
        if not _is_row(row) or not _is_next(ages, row):
            return False
    return True


def longest_wait(log, pid):
    ask_range("pid", pid, 0, 7)
    longest = 0
    wait = 0
    ready = False
    for row in log:
        if row[0] == "pick":
            wait = wait + 1 if ready and row[1] != pid else 0
            longest = max(longest, wait)
        elif row[1] == pid and row[0] in ("enter", "wake"):
            ready = True
        elif row[1] == pid and row[0] in ("sleep", "leave"):
            ready = False
            wait = 0
    return longest


def _is_row(x):
    if not isinstance(x, tuple) or len(x) == 0 or not isinstance(x[0], str):
        return False
    return x[0] in _ROWS and len(x) == _ROWS[x[0]]


def _is_next(ages, row):
    """Makes the call of the row; tells whether it raised no error and answered as told."""
    if row[0] == "pick":
        return _is_same_pick(ages.pick(), row[1])
    try:
        _call(ages, row)
    except WardError:
        return False
    return True


def _is_same_pick(picked, told):
    if picked is None:
        return told is None
    return is_integer(told) and told == picked


def _call(ages, row):
    name = row[0]
    pid = row[1]
    if name == "enter":
        ages.enter(pid, row[2])
    elif name == "leave":
        ages.leave(pid)
    elif name == "wake":
        ages.wake(pid)
    elif name == "sleep":
        ages.sleep(pid)
    else:
        ages.lend(pid, row[2])
