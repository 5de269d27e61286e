"""For the tests of worlds: programs from texts, random worlds and events, and a model of a world."""

import copy

from tests import keepers
from tests.test_rights import Model as RightsModel
from wardwork.assembler import assemble
from wardwork.machine import step
from wardwork.source import read_source

NEEDED = {3: ("pipe", "w"), 4: ("pipe", "r"), 5: ("gate", "w"), 6: ("gate", None), 7: ("block", "r"), 8: ("block", "w")}
ORDER = [6, 1, 2, 4, 3, 5]


def program(text):
    """The words of a program; a `!` in the text is a line feed."""
    return assemble(read_source(text.replace("!", "\n")))[0]


def ask(n, b=None, c=None, d=None):
    """The text of a request with these registers."""
    sets = [f"set {name} {value}" for name, value in (("b", b), ("c", c), ("d", d)) if value is not None]
    return " ! ".join([*sets, f"trap {n}"])


def asking(*requests):
    """The words of a program that makes these requests, tuples of n, b, c and d, one behind the other."""
    return program(" ! ".join([ask(*request) for request in requests] + ["halt"]))


def marks_of(number):
    return "".join(mark for mark, value in (("r", 4), ("w", 2), ("g", 1)) if number & value)


class Owned:
    """The memory of a process in the model of the keeper."""

    def __init__(self, keeper, owner, pages):
        self.keeper = keeper
        self.owner = owner
        self.pages = pages

    def read(self, address):
        return self.keeper.read(self.owner, address)

    def write(self, address, word):
        self.keeper.write(self.owner, address, word)


class One:
    """A process of the model."""

    def __init__(self, pid, base, core, contents):
        self.pid = pid
        self.base = base
        self.core = core
        self.status = "ready"
        self.handles = []
        self.gifts = []
        self.request = None
        self.since = None
        self.contents = None
        self.start = core
        self.before = list(contents)
        self.asked = []
        self.answers = []
        self.steps = 0
        self.ending = None

    def living(self):
        return self.status in ("ready", "waiting")


class Model:
    """Does what [79] to [91] tell, for the setup of a world and right events."""

    def __init__(self, setup):
        programs, self.pages, priorities, frames, slots, self.rooms, self.seats, blocks, roots = copy.deepcopy(setup)
        self.keeper = keepers.Model(frames, slots)
        self.rights = RightsModel()
        self.things = []
        self.pipes = [[] for _ in self.rooms]
        self.holders = [set() for _ in self.seats]
        self.queues = [[] for _ in self.seats]
        self.blocks = [[0] * 8 for _ in range(blocks)]
        self.ones = []
        self.ages = {}
        self.log = []
        self.record = []
        self.time = 0
        for pid, words in enumerate(programs):
            self.keeper.admit(pid, self.pages, words)
            self.enter(One(pid, priorities[pid], (0,) * 5, self.keeper.contents(pid)))
        for pid, thing, marks in roots:
            self.ones[pid].handles.append(self.rights.root(pid, thing, marks))
            self.things.append(thing)

    def enter(self, one):
        self.ones.append(one)
        self.ages[one.pid] = [one.base, 0, True, 0]

    def living(self, pid):
        return pid < len(self.ones) and self.ones[pid].living()

    def is_live(self, number):
        return number is not None and self.rights.made[number]["live"]

    def marks(self, number):
        return self.rights.made[number]["marks"] if self.is_live(number) else set()

    def have(self, thing, mark):
        """The living processes with a live right on the thing with the mark."""
        return {row[1] for row in self.rights.rows() if row[2] == thing and mark in row[3] and self.living(row[1])}

    def handle(self, one, request):
        """The number and the thing of the right of a request, or twice None."""
        if request[2] >= len(one.handles):
            return None, None
        number = one.handles[request[2]]
        return number, self.things[number]

    # Gates.

    def effective(self, pid):
        reach = {pid}
        while True:
            more = {waiter for gate, holders in enumerate(self.holders) if holders & reach for waiter in self.queues[gate]}
            if more <= reach:
                return max(self.ones[other].base for other in reach)
            reach |= more

    def release(self, pid, gate):
        """Frees the seat; gives it to the next one and answers that."""
        self.holders[gate].discard(pid)
        if self.queues[gate]:
            after = max(self.queues[gate], key=lambda other: (self.effective(other), -self.ones[other].since))
            self.queues[gate].remove(after)
            self.holders[gate].add(after)
            return after
        return None

    # Requests.

    def reasons(self, one, request):
        """All reasons that apply, whatever others apply, too."""
        n, _, b, c, d = request
        if n > 12:
            return {6}
        found = set()
        if n == 10:
            return found if b < len(one.gifts) and self.is_live(one.gifts[b]) else {1}
        if 3 <= n <= 9 or n == 11:
            number, thing = self.handle(one, request)
            marks = self.marks(number)
            if number is None or (n != 6 and not self.is_live(number)):
                found.add(1)
            if n in NEEDED and number is not None:
                kind, mark = NEEDED[n]
                if not thing.startswith(kind) or (mark is not None and mark not in marks):
                    found.add(2)
                elif n == 5 and one.pid in self.holders[int(thing[5:])]:
                    found.add(4)
                elif n == 6 and one.pid not in self.holders[int(thing[5:])]:
                    found.add(4)
                elif n in (3, 4) and self.is_stuck(thing, n) and self.is_closed(one, thing, n):
                    found.add(5)
            if n in (7, 8) and c > 7:
                found.add(4)
            if n == 9:
                if "g" not in marks or not 1 <= d <= 7 or not set(marks_of(d)) <= marks:
                    found.add(2)
                if not self.living(c):
                    found.add(4)
                if len(self.rights.made) == 100:
                    found.add(3)
            if n == 11 and (c > 7 or not set(marks_of(c)) <= marks):
                found.add(2)
        if n == 12 and (len(self.ones) == 8 or self.keeper.room_left() < self.pages):
            found.add(3)
        return found

    def is_stuck(self, thing, n):
        words, room = self.pipes[int(thing[5:])], self.rooms[int(thing[5:])]
        return len(words) == room if n == 3 else not words

    def is_closed(self, one, thing, n):
        return not self.have(thing, "r" if n == 3 else "w") - {one.pid}

    def effect(self, one, request):
        """What a request does against which nothing speaks: its answer, or None if the process waits."""
        n, _, b, c, d = request
        number, thing = self.handle(one, request) if n in (3, 4, 5, 6, 7, 8, 9, 11) else (None, None)
        at = int(thing.split(":")[1]) if thing else None
        if n in (0, 1, 2):
            return (1, [0, one.pid, len(one.handles)][n])
        if n == 3:
            if self.is_stuck(thing, 3):
                return None
            self.pipes[at].append(c)
            return (1, 0)
        if n == 4:
            return None if self.is_stuck(thing, 4) else (1, self.pipes[at].pop(0))
        if n == 5:
            if len(self.holders[at]) == self.seats[at]:
                self.queues[at].append(one.pid)
                return None
            self.holders[at].add(one.pid)
            return (1, 0)
        if n == 7:
            return (1, self.blocks[at][c])
        if n == 8:
            self.blocks[at][c] = d
            return (1, 0)
        if n == 9:
            gift = self.rights.hand_on(number, c, marks_of(d))
            self.things.append(thing)
            one.gifts.append(gift)
            self.ones[c].handles.append(gift)
            return (1, len(one.gifts) - 1)
        if n in (10, 11):
            gone = self.rights.narrow(one.gifts[b] if n == 10 else number, "" if n == 10 else marks_of(c))
            return (1, len(gone))
        return self.fork(one)

    def fork(self, one):
        pid = len(self.ones)
        self.keeper.fork(one.pid, pid)
        core = (one.core[0], 2, one.pid, one.core[3], one.core[4])
        self.enter(One(pid, one.base, core, self.keeper.contents(pid)))
        return (1, pid)

    def ask(self, one, n):
        request = (n, *one.core[1:])
        one.asked.append(request)
        found = self.reasons(one, request)
        if found:
            answer = (0, min(found, key=ORDER.index))
        elif n == 6:
            answer = (1, 0)
        else:
            answer = self.effect(one, request)
        if answer is None:
            self.time += 1
            one.request, one.since, one.status = request, self.time, "waiting"
            self.ages[one.pid][2:] = [False, 0]
            return "wait"
        self.tell(one, request, answer)
        if n == 6 and answer == (1, 0):
            self.give(self.release(one.pid, int(self.handle(one, request)[1][5:])))
        self.settle()
        return "rest" if n == 0 else None

    def tell(self, one, request, answer):
        thing = self.handle(one, request)[1] if 3 <= request[0] <= 8 and answer[0] == 1 else None
        self.log.append((one.pid, request, answer, thing))
        one.answers.append(answer)
        one.core = (one.core[0], *answer, *one.core[3:])

    def late(self, one, answer):
        request, one.request, one.since, one.status = one.request, None, None, "ready"
        self.ages[one.pid][2:] = [True, 0]
        self.tell(one, request, answer)

    def give(self, pid):
        if pid is not None:
            self.late(self.ones[pid], (1, 0))

    def settle(self):
        while True:
            waiting = sorted((one for one in self.ones if one.status == "waiting"), key=lambda one: one.since)
            for one in waiting:
                answer = self.late_answer(one)
                if answer is not None:
                    for queue in self.queues:
                        if one.pid in queue:
                            queue.remove(one.pid)
                    self.late(one, answer)
                    break
            else:
                return

    def late_answer(self, one):
        number, thing = self.handle(one, one.request)
        n = one.request[0]
        if not self.is_live(number):
            return (0, 1)
        if NEEDED[n][1] not in self.marks(number):
            return (0, 2)
        if n == 5:
            return None
        if not self.is_stuck(thing, n):
            return self.effect(one, one.request)
        return (0, 5) if self.is_closed(one, thing, n) else None

    # Events.

    def run(self, one, limit):
        memory = Owned(self.keeper, one.pid, self.pages)
        steps = 0
        while True:
            if steps == limit:
                return one.pid, steps, "interrupt"
            core, event = step(one.core, memory)
            if event is not None and event[0] in ("halt", "fault"):
                self.end(one, event[-1])
                return one.pid, steps, event[-1]
            one.core = core
            steps += 1
            one.steps += 1
            outcome = self.ask(one, event[1]) if event else None
            if outcome:
                return one.pid, steps, outcome

    def end(self, one, status):
        one.ending = status if status != "ended" else "asks" if one.status == "waiting" else "limit"
        one.status = status
        one.contents = self.keeper.contents(one.pid)
        self.log.append((one.pid, None, None, None))
        self.keeper.dismiss(one.pid)
        del self.ages[one.pid]
        for queue in self.queues:
            if one.pid in queue:
                queue.remove(one.pid)
        for gate, holders in enumerate(self.holders):
            if one.pid in holders:
                self.give(self.release(one.pid, gate))
        self.settle()

    def pick(self):
        ready = [pid for pid in sorted(self.ages) if self.ages[pid][2]]
        if not ready:
            return None
        picked = max(ready, key=lambda pid: (max(self.ages[pid][:2]) + self.ages[pid][3], -pid))
        for pid in ready:
            self.ages[pid][3] = 0 if pid == picked else self.ages[pid][3] + 1
        return self.ones[picked]

    def happen(self, event):
        idle = (None, 0, "idle")
        if event[0] == "turn":
            one = self.pick()
            return self.run(one, event[1]) if one else idle
        if event[0] in ("force", "end"):
            if not self.living(event[1]):
                return idle
            one = self.ones[event[1]]
            if event[0] == "end":
                self.end(one, "ended")
                return one.pid, 0, "ended"
            return self.run(one, event[2]) if one.status == "ready" else idle
        k = event[1]
        if k >= len(self.pipes):
            return idle
        if event[0] == "put":
            if len(self.pipes[k]) == self.rooms[k]:
                return None, 0, "full"
            self.pipes[k].append(event[2])
            self.log.append((None, (3, 0, 0, event[2], 0), (1, 0), f"pipe:{k}"))
            self.settle()
            return None, 0, "put"
        if not self.pipes[k]:
            return None, 0, "empty"
        word = self.pipes[k].pop(0)
        self.log.append((None, (4, 0, 0, 0, 0), (1, word), f"pipe:{k}"))
        self.settle()
        return None, 0, word

    def do(self, event):
        row = (event, *self.happen(event))
        for pid in self.ages:
            self.ages[pid][1] = self.effective(pid)
        self.record.append(row)
        return row

    # Questions.

    def contents(self, one):
        return self.keeper.contents(one.pid) if one.contents is None else list(one.contents)

    def view(self, one):
        ending = one.ending or ("asks" if one.status == "waiting" else "limit")
        return (one.start, list(one.before), list(one.answers), list(one.asked), one.steps, ending, one.core,
                self.contents(one))

    def waits(self):
        pairs = []
        for one in self.ones:
            if one.status == "waiting":
                number, thing = self.handle(one, one.request)
                n = one.request[0]
                others = set(self.holders[int(thing[5:])]) if n == 5 else self.have(thing, "r" if n == 3 else "w")
                above = self.rights.made[number]["above"]
                while above is not None:
                    others.add(self.rights.made[above]["holder"])
                    above = self.rights.made[above]["above"]
                pairs.append((one.pid, sorted(pid for pid in others if pid != one.pid and self.living(pid))))
        return pairs

    def seen(self):
        """All questions, in the order of world_seen."""
        return ([one.status for one in self.ones], [one.core for one in self.ones],
                [self.contents(one) for one in self.ones], [list(one.handles) for one in self.ones],
                [self.view(one) for one in self.ones], [one.pid for one in self.ones if one.status == "ready"],
                [list(words) for words in self.pipes], [sorted(holders) for holders in self.holders],
                copy.deepcopy(self.blocks), self.rights.rows(), [(pid, *self.ages[pid]) for pid in sorted(self.ages)],
                self.keeper.tables(), self.waits(), len(self.ones))


def world_seen(world):
    """All questions of a world but record, log, ring and certificate."""
    many = range(world.many)
    rooms, gates, blocks = world.setup[5:8]
    return ([world.status(pid) for pid in many], [world.core(pid) for pid in many], [world.contents(pid) for pid in many],
            [world.handles(pid) for pid in many], [world.view(pid) for pid in many], world.ready(),
            [world.pipe(k) for k in range(len(rooms))], [world.gate(k) for k in range(len(gates))],
            [world.block(k) for k in range(blocks)], world.rights(), world.ages(), world.tables(), world.waits(),
            world.many)


def all_seen(world):
    """Every question of a world, and its state."""
    return copy.deepcopy((world_seen(world), world.record(), world.log(), world.certificate(), world.ring_of_now(),
                          world.setup, world.state()))


# Random worlds.

FITS = {"pipe": [3, 3, 3, 4, 4, 4], "gate": [5, 5, 6], "block": [7, 8]}


def random_request(chance, things):
    """The text of a request of a process with handles on these things."""
    if chance.randrange(12) == 0 or not things:
        n = chance.choice([0, 1, 2, 12, 12, 13, 1023, 3, 4, 5, 6, 7, 8, 9, 10, 11])
        return ask(n, chance.randrange(4), chance.randrange(9), chance.randrange(9))
    what = chance.randrange(20)
    handle = chance.randrange(len(things) + 1) if chance.randrange(10) == 0 else chance.randrange(len(things))
    if what < 12 and handle < len(things):
        return ask(chance.choice(FITS[things[handle].split(":")[0]]), handle, chance.randrange(10), chance.randrange(1000))
    if what < 15:
        return ask(9, handle, chance.randrange(5), chance.choice([1, 4, 6, 6, 7, 7, 7, 2, 3, 5, 0, 8]))
    if what == 15:
        return ask(10, chance.choice([0, 0, 1, 2]))
    if what == 16 and chance.randrange(3) == 0:
        return ask(11, handle, chance.choice([7, 6, 5, 4, 2, 0, 8]))
    if what == 17:
        return "trap 12 ! copy c b ! " + ask(9, handle, None, chance.choice([7, 6]))
    return chance.choice(["add a b ! set d 40 ! store b d", "set d 40 ! load c d", "trap 0", "trap 2", "trap 1",
                          "sub c c ! add c b", "set a 60 ! store b a"])


def random_program(chance, things):
    parts = [random_request(chance, things) for _ in range(chance.randrange(1, 8))]
    parts.append(chance.choice(["jump 0"] * 6 + ["halt", "word 1", "set a 900 ! load a a", "set a 0 ! div b a", "jump 999"]))
    return program(" ! ".join(parts))


def random_setup(chance, ends=True):
    """The arguments of a random world, as a dict."""
    many = chance.randrange(1, 6)
    rooms = [chance.choice([1, 1, 2, 3]) for _ in range(chance.randrange(3))]
    gates = [chance.choice([1, 1, 1, 2]) for _ in range(chance.randrange(3))]
    blocks = chance.randrange(2)
    things = [f"pipe:{k}" for k in range(len(rooms))] + [f"gate:{k}" for k in range(len(gates))]
    things += [f"block:{k}" for k in range(blocks)]
    roots = []
    for pid in range(many):
        for _ in range(chance.randrange(5) if things else 0):
            roots.append((pid, chance.choice(things), chance.choice(["rwg", "rwg", "rw", "rw", "w", "r", "rg", "wg", "g"])))
    programs = []
    for pid in range(many):
        own = [thing for owner, thing, marks in roots if owner == pid]
        words = random_program(chance, own)
        while len(words) > 64:
            words = random_program(chance, own)
        programs.append(words)
    frames, slots = chance.choice([(4, 60), (1, 63), (8, 40), (32, 64), (3, 50)])
    return {"programs": programs, "pages": 8, "priorities": [chance.randrange(8) for _ in range(chance.randrange(9))],
            "frames": frames, "slots": slots, "rooms": rooms, "gates": gates, "blocks": blocks, "roots": roots}


def random_event(chance, ends=True):
    what = chance.randrange(40)
    if what < 22:
        return ("turn", chance.choice([1, 2, 3, 5, 8, 20]))
    if what < 32:
        return ("force", chance.randrange(6), chance.choice([1, 3, 5, 20]))
    if what < 35:
        return ("put", chance.randrange(3), chance.randrange(65536))
    if what < 39 or not ends:
        return ("pull", chance.randrange(3))
    return ("end", chance.randrange(8))
