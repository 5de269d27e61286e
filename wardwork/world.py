"""The world: up to eight processes on one machine, run by events."""

from wardwork.checks import ask_range, is_in_range
from wardwork.errors import BadArgument, Unknown
from wardwork.kernel import Kernel
from wardwork.setups import ask_setup, whole_setup
from wardwork.waits import find_ring

# For each event the ranges of its numbers.
_EVENTS = {
    "turn": ((1, 20),),
    "force": ((0, 7), (1, 20)),
    "put": ((0, 7), (0, 65535)),
    "pull": ((0, 7),),
    "end": ((0, 7),),
}


class World:
    """Processes with memory, turns, pipes, gates, blocks and rights. Only events change it."""

    def __init__(self, programs, *, pages=4, priorities=(), frames=4, slots=32, rooms=(), gates=(), blocks=0, roots=()):
        setup = (programs, pages, priorities, frames, slots, rooms, gates, blocks, roots)
        ask_setup(setup)
        self._setup = whole_setup(setup)
        self._kernel = Kernel(self._setup)
        self._done = []

    @property
    def many(self):
        return len(self._kernel.processes)

    @property
    def setup(self):
        return whole_setup(self._setup)

    def do(self, event):
        if not _is_event(event):
            raise BadArgument("event")
        row = (event, *self._happen(event))
        self._kernel.lend()
        self._done.append(row)
        return row

    def run(self, events):
        if not isinstance(events, list) or len(events) > 200 or not all(_is_event(event) for event in events):
            raise BadArgument("events")
        return [self.do(event) for event in events]

    def record(self):
        return list(self._done)

    def log(self):
        return list(self._kernel.history)

    def status(self, pid):
        return self._process(pid).standing

    def core(self, pid):
        return self._process(pid).now

    def contents(self, pid):
        self._process(pid)
        return self._kernel.contents_of(pid)

    def handles(self, pid):
        return [number for number, thing in self._process(pid).grants]

    def ready(self):
        return [process.pid for process in self._kernel.processes if process.standing == "ready"]

    def pipe(self, k):
        ask_range("k", k, 0, len(self._kernel.pipes) - 1)
        return list(self._kernel.pipes[k])

    def gate(self, k):
        ask_range("k", k, 0, len(self._setup[6]) - 1)
        return self._kernel.gates.holders(k)

    def block(self, k):
        ask_range("k", k, 0, len(self._kernel.blocks) - 1)
        return list(self._kernel.blocks[k])

    def rights(self):
        return self._kernel.book.rows()

    def ages(self):
        return self._kernel.scheduler.rows()

    def tables(self):
        return self._kernel.keeper.tables()

    def certificate(self):
        return self._kernel.keeper.certificate()

    def waits(self):
        return self._kernel.waits()

    def ring_of_now(self):
        return find_ring(self._kernel.waits())

    def view(self, pid):
        return self._process(pid).view(self._kernel.contents_of(pid))

    def state(self):
        return (self.setup, self._kernel.state())

    @staticmethod
    def built(setup):
        programs, pages, priorities, frames, slots, rooms, gates, blocks, roots = setup
        return World(programs, pages=pages, priorities=priorities, frames=frames, slots=slots, rooms=rooms, gates=gates,
                     blocks=blocks, roots=roots)

    @staticmethod
    def restored(state):
        setup, kernel = state
        world = World.built(setup)
        world._kernel = Kernel.restored(world._setup, kernel)
        return world

    def _process(self, pid):
        ask_range("pid", pid, 0, 7)
        if pid >= len(self._kernel.processes):
            raise Unknown(pid)
        return self._kernel.processes[pid]

    def _happen(self, event):
        """Lets the event happen; returns the pid, the counted steps and the outcome for its record row."""
        name = event[0]
        if name == "turn":
            return self._let_run(self._kernel.scheduler.pick(), event[1])
        if name == "force":
            return self._let_run(event[1] if event[1] in self.ready() else None, event[2])
        if name == "end":
            return self._end(event[1])
        if event[1] >= len(self._kernel.pipes):
            return (None, 0, "idle")
        if name == "put":
            return (None, 0, "put" if self._kernel.put(event[1], event[2]) else "full")
        word = self._kernel.pull(event[1])
        return (None, 0, "empty" if word is None else word)

    def _let_run(self, pid, limit):
        if pid is None:
            return (None, 0, "idle")
        return (pid, *self._kernel.run(pid, limit))

    def _end(self, pid):
        if not self._kernel.is_living(pid):
            return (None, 0, "idle")
        self._kernel.end(pid, "ended")
        return (pid, 0, "ended")


def _is_event(x):
    if not isinstance(x, tuple) or len(x) == 0 or not isinstance(x[0], str) or x[0] not in _EVENTS:
        return False
    ranges = _EVENTS[x[0]]
    if len(x) != 1 + len(ranges):
        return False
    return all(is_in_range(number, least, most) for number, (least, most) in zip(x[1:], ranges))
