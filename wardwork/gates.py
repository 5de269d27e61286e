"""Gates: seats that processes hold, queues for them, and the priorities that waiting lends."""

from wardwork.checks import ask_range, ask_truth, is_in_range, is_integer
from wardwork.errors import BadArgument, RingOfWaits, Taken, Unknown, WrongState
from wardwork.waits import find_ring


class Gates:
    """Gates with a number of seats each, and the processes that hold them or wait for them."""

    def __init__(self, seats):
        if not isinstance(seats, (list, tuple)) or len(seats) > 8:
            raise BadArgument("seats")
        if not all(is_in_range(many, 1, 8) for many in seats):
            raise BadArgument("seats")
        self._seats = list(seats)
        # For each process that is in, its base priority.
        self._bases = {}
        # For each gate its holders in ascending order, and its queue with the longest waiting first.
        self._holders = [[] for _ in seats]
        self._queues = [[] for _ in seats]

    def enter(self, pid, priority=3):
        ask_range("pid", pid, 0, 7)
        ask_range("priority", priority, 0, 7)
        if pid in self._bases:
            raise Taken(pid)
        self._bases[pid] = priority

    def leave(self, pid):
        self._ask_member(pid)
        awaited = self._awaited(pid)
        if awaited is not None:
            self._queues[awaited].remove(pid)
        gates = self._held(pid)
        given = []
        for gate in gates:
            after = self._give_back(pid, gate)
            if after is not None:
                given.append((gate, after))
        del self._bases[pid]
        return given

    def acquire(self, pid, gate, *, cautious=False):
        ask_range("pid", pid, 0, 7)
        self._ask_gate(gate)
        ask_truth("cautious", cautious)
        self._ask_member(pid)
        if self._awaited(pid) is not None or pid in self._holders[gate]:
            raise WrongState(gate)
        if len(self._holders[gate]) < self._seats[gate]:
            self._seat(pid, gate)
            return True
        if cautious:
            self._ask_no_ring(pid, gate)
        self._queues[gate].append(pid)
        return False

    def release(self, pid, gate):
        ask_range("pid", pid, 0, 7)
        self._ask_gate(gate)
        self._ask_member(pid)
        if self._awaited(pid) is not None or pid not in self._holders[gate]:
            raise WrongState(gate)
        return self._give_back(pid, gate)

    def withdraw(self, pid):
        self._ask_member(pid)
        gate = self._awaited(pid)
        if gate is None:
            raise WrongState(pid)
        self._queues[gate].remove(pid)
        return gate

    def effective(self, pid):
        self._ask_member(pid)
        return self._greatest(pid)

    def holders(self, gate):
        self._ask_gate(gate)
        return list(self._holders[gate])

    def queue(self, gate):
        self._ask_gate(gate)
        return list(self._queues[gate])

    def held(self, pid):
        self._ask_member(pid)
        return self._held(pid)

    def waiting(self, pid):
        self._ask_member(pid)
        return self._awaited(pid)

    def waits(self):
        pairs = [(pid, list(self._holders[gate])) for gate, queue in enumerate(self._queues) for pid in queue]
        # A process waits for one gate, so the pids alone decide the order.
        return sorted(pairs)

    def state(self):
        bases = list(self._bases.items())
        holders = [list(pids) for pids in self._holders]
        queues = [list(pids) for pids in self._queues]
        return (list(self._seats), bases, holders, queues)

    def __contains__(self, x):
        return is_integer(x) and x in self._bases

    @staticmethod
    def restored(state):
        seats, bases, holders, queues = state
        gates = Gates(seats)
        gates._bases = dict(bases)
        gates._holders = [list(pids) for pids in holders]
        gates._queues = [list(pids) for pids in queues]
        return gates

    def _ask_gate(self, gate):
        ask_range("gate", gate, 0, len(self._seats) - 1)

    def _ask_member(self, pid):
        ask_range("pid", pid, 0, 7)
        if pid not in self._bases:
            raise Unknown(pid)

    def _ask_no_ring(self, pid, gate):
        """Asks that the process, if it waited for the gate, could go on."""
        ring = find_ring(self.waits() + [(pid, self._holders[gate])])
        if pid in ring:
            raise RingOfWaits(ring)

    def _held(self, pid):
        return [gate for gate, pids in enumerate(self._holders) if pid in pids]

    def _awaited(self, pid):
        """The gate for which the process waits, or None."""
        for gate, pids in enumerate(self._queues):
            if pid in pids:
                return gate
        return None

    def _seat(self, pid, gate):
        self._holders[gate] = sorted([*self._holders[gate], pid])

    def _give_back(self, pid, gate):
        """Takes the gate from the process and gives the seat to the next one; returns that one, or None."""
        self._holders[gate].remove(pid)
        queue = self._queues[gate]
        if not queue:
            return None
        greatest = [self._greatest(waiter) for waiter in queue]
        # The first one of several is taken, and the longest waiting stands first.
        after = queue.pop(greatest.index(max(greatest)))
        self._seat(after, gate)
        return after

    def _greatest(self, pid):
        """The greatest base priority among the process and all that reach it."""
        reaching = [pid]
        waiting = [pid]
        while waiting:
            reached = waiting.pop()
            gates = self._held(reached)
            for gate in gates:
                others = [other for other in self._queues[gate] if other not in reaching]
                reaching.extend(others)
                waiting.extend(others)
        return max([self._bases[other] for other in reaching])
