"""What runs the processes of a world: their memory, turns, gates, pipes, blocks and rights, joined."""

from wardwork.ages import Ages
from wardwork.gates import Gates
from wardwork.keeper import Keeper, Window
from wardwork.machine import answered, step
from wardwork.pipes import Pipe
from wardwork.processes import Process
from wardwork.requests import ACQUIRE, NEEDED, RECEIVE, RELEASE, REST, SEND, answer_at_once, answer_late, right_asked
from wardwork.rights import Rights
from wardwork.setups import number_of


class Kernel:
    """The parts of a world. Its processes ask it, and it answers at once or later."""

    def __init__(self, setup):
        programs, pages, priorities, frames, slots, rooms, gates, blocks, roots = setup
        self.keeper = Keeper(frames, slots)
        self.scheduler = Ages()
        self.gates = Gates(gates)
        self.pipes = [Pipe(room) for room in rooms]
        self.blocks = [[0] * 8 for _ in range(blocks)]
        self.book = Rights()
        self.processes = []
        # The pids of the waiting processes; the one that has waited longest stands first.
        self.waiters = []
        self.history = []
        for pid, program in enumerate(programs):
            self.keeper.admit(pid, pages, program)
            self._let_in(priorities[pid], (0, 0, 0, 0, 0))
        for pid, thing, marks in roots:
            self.processes[pid].grants.append((self.book.root(pid, thing, marks), thing))

    def is_living(self, pid):
        return pid < len(self.processes) and self.processes[pid].is_living()

    def is_closed(self, process, mark):
        """Tells whether no other living process has a right with this mark on the pipe that the process asks for."""
        thing = right_asked(process)[1]
        others = self.book.who(thing, mark)
        return not any(pid != process.pid and self.is_living(pid) for pid in others)

    def contents_of(self, pid):
        left = self.processes[pid].left
        return self.keeper.contents(pid) if left is None else list(left)

    def run(self, pid, limit):
        """Lets a ready process run for at most so many steps; returns the counted ones and the outcome."""
        process = self.processes[pid]
        memory = Window(self.keeper, pid)
        steps = 0
        while steps < limit:
            outcome = self._step(process, memory)
            if not process.is_living():
                return (steps, outcome)
            steps += 1
            if outcome is not None:
                return (steps, outcome)
        return (steps, "interrupt")

    def end(self, pid, standing):
        process = self.processes[pid]
        process.left = self.keeper.contents(pid)
        process.standing = standing
        self.history.append((pid, None, None, None))
        self.keeper.dismiss(pid)
        self.scheduler.leave(pid)
        if pid in self.waiters:
            self.waiters.remove(pid)
        given = self.gates.leave(pid)
        for gate, after in given:
            self._wake(after, (1, 0))
        self._settle()

    def put(self, pipe, word):
        """Puts a word from outside into a pipe; tells whether there was room."""
        if not self.pipes[pipe].send(word):
            return False
        self.history.append((None, (SEND, 0, 0, word, 0), (1, 0), f"pipe:{pipe}"))
        self._settle()
        return True

    def pull(self, pipe):
        """Takes the oldest word of a pipe to the outside; None if there is none."""
        word = self.pipes[pipe].receive()
        if word is not None:
            self.history.append((None, (RECEIVE, 0, 0, 0, 0), (1, word), f"pipe:{pipe}"))
            self._settle()
        return word

    def fork(self, process):
        """Makes a process that goes on as this one behind its request; returns the new number."""
        pid = len(self.processes)
        self.keeper.fork(process.pid, pid)
        self._let_in(process.base, answered(process.now, (2, process.pid)))
        return pid

    def lend(self):
        """Tells the scheduler the priorities that waiting for gates lends."""
        for process in self.processes:
            if process.is_living():
                self.scheduler.lend(process.pid, self.gates.effective(process.pid))

    def waits(self):
        return [(pid, self._others_of(self.processes[pid])) for pid in sorted(self.waiters)]

    def state(self):
        pipes = [pipe.state() for pipe in self.pipes]
        blocks = [list(words) for words in self.blocks]
        processes = [process.state() for process in self.processes]
        return (self.keeper.state(), self.scheduler.state(), self.gates.state(), pipes, blocks, self.book.state(),
                processes, list(self.waiters))

    @staticmethod
    def restored(setup, state):
        keeper, scheduler, gates, pipes, blocks, book, rows, waiters = state
        kernel = Kernel(setup)
        kernel.keeper = Keeper.restored(keeper)
        kernel.scheduler = Ages.restored(scheduler)
        kernel.gates = Gates.restored(gates)
        kernel.pipes = [Pipe.restored(pipe) for pipe in pipes]
        kernel.blocks = [list(words) for words in blocks]
        kernel.book = Rights.restored(book)
        kernel.waiters = list(waiters)
        kernel.processes = []
        for pid, row in enumerate(rows):
            # The last part of a row is what the memory held when the process ended.
            contents = kernel.keeper.contents(pid) if pid in kernel.keeper else row[-1]
            kernel.processes.append(Process.restored(pid, row, contents))
        return kernel

    def _let_in(self, base, core):
        """Makes the process with the next number, whose memory is with the keeper already."""
        pid = len(self.processes)
        self.processes.append(Process(pid, base, core, self.keeper.contents(pid)))
        self.gates.enter(pid, base)
        self.scheduler.enter(pid, base)

    def _step(self, process, memory):
        """Makes one step; returns the outcome if the process stops running by it, otherwise None."""
        core, event = step(process.now, memory)
        if event is not None and event[0] != "trap":
            # The event is a halt, or a fault with its name as the last part.
            self.end(process.pid, event[-1])
            return event[-1]
        process.now = core
        process.steps += 1
        return None if event is None else self._ask(process, event[1])

    def _ask(self, process, number):
        """Takes a request in; returns "rest" or "wait" if the process stops running by it, otherwise None."""
        request = process.ask(number)
        answer = answer_at_once(self, process)
        if answer is None:
            process.standing = "waiting"
            self.waiters.append(process.pid)
            self.scheduler.sleep(process.pid)
            return "wait"
        self._tell(process, answer)
        if number == RELEASE and answer == (1, 0):
            thing = process.grants[request[2]][1]
            after = self.gates.release(process.pid, number_of(thing))
            if after is not None:
                self._wake(after, (1, 0))
        self._settle()
        return "rest" if number == REST else None

    def _tell(self, process, answer):
        """Answers the request of a process."""
        request = process.request
        done = request[0] in NEEDED and answer[0] == 1
        thing = right_asked(process)[1] if done else None
        self.history.append((process.pid, request, answer, thing))
        process.take(answer)

    def _wake(self, pid, answer):
        """Answers the request of a waiting process, which is ready then."""
        self.waiters.remove(pid)
        self.scheduler.wake(pid)
        self._tell(self.processes[pid], answer)

    def _settle(self):
        """Answers waiting processes as long as one can be answered."""
        while self._answer_longest():
            pass

    def _answer_longest(self):
        """Answers the one that has waited longest of those that can be answered; tells whether there was one."""
        for pid in list(self.waiters):
            process = self.processes[pid]
            answer = answer_late(self, process)
            if answer is not None:
                if process.request[0] == ACQUIRE:
                    self.gates.withdraw(pid)
                self._wake(pid, answer)
                return True
        return False

    def _others_of(self, process):
        """The ascending list of those on whom a waiting process waits."""
        number, thing = right_asked(process)
        if process.request[0] == ACQUIRE:
            others = self.gates.holders(number_of(thing))
        else:
            others = self.book.who(thing, "r" if process.request[0] == SEND else "w")
        others.extend([self.book.row(above)[1] for above in self.book.above(number)])
        return sorted(set([pid for pid in others if pid != process.pid and self.is_living(pid)]))
