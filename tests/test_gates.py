"""Gates, [38] to [40], and their saved states, [8]."""

import copy
import random
import unittest

from tests.cases import WardCase
from tests.values import NO_INTEGERS, is_plain, no_integers_of, spoil
from wardwork.errors import BadArgument, RingOfWaits, Taken, Unknown, WardError, WrongState
from wardwork.gates import Gates
from wardwork.waits import find_ring

NO_PIDS = no_integers_of(0, 7)
NO_TRUTHS = [x for x in NO_INTEGERS if not isinstance(x, bool)] + [0, 1, 2, -1]


class Model:
    """Gates by the words of [38] and [39]: one row for each seat that is held and each wait, in order of time."""

    def __init__(self, seats):
        self.seats = list(seats)
        self.bases = {}
        self.held = []
        self.waits = []

    def reaches(self):
        pairs = {(pid, other) for pid, gate in self.waits for other, at in self.held if at == gate}
        while True:
            more = pairs | {(a, d) for a, b in pairs for c, d in pairs if b == c}
            if more == pairs:
                return pairs
            pairs = more

    def effective(self, pid):
        pairs = self.reaches()
        return max(base for one, base in self.bases.items() if one == pid or (one, pid) in pairs)

    def enter(self, pid, priority):
        self.bases[pid] = priority

    def acquire(self, pid, gate):
        if sum(at == gate for _, at in self.held) < self.seats[gate]:
            self.held.append((pid, gate))
            return True
        self.waits.append((pid, gate))
        return False

    def release(self, pid, gate):
        self.held.remove((pid, gate))
        queue = [one for one, at in self.waits if at == gate]
        if not queue:
            return None
        best = max(self.effective(one) for one in queue)
        after = [one for one in queue if self.effective(one) == best][0]
        self.waits.remove((after, gate))
        self.held.append((after, gate))
        return after

    def withdraw(self, pid):
        gate = [at for one, at in self.waits if one == pid][0]
        self.waits.remove((pid, gate))
        return gate

    def leave(self, pid):
        self.waits = [row for row in self.waits if row[0] != pid]
        pairs = [(gate, self.release(pid, gate)) for one, gate in sorted(self.held) if one == pid]
        del self.bases[pid]
        return [pair for pair in pairs if pair[1] is not None]

    def seen(self):
        holders = [sorted(one for one, at in self.held if at == gate) for gate in range(len(self.seats))]
        return (holders, [[one for one, at in self.waits if at == gate] for gate in range(len(self.seats))],
                [(pid, self.effective(pid), [gate for gate in range(len(self.seats)) if pid in holders[gate]],
                  ([at for one, at in self.waits if one == pid] + [None])[0]) for pid in sorted(self.bases)],
                sorted((pid, holders[gate]) for pid, gate in self.waits))


def seen(gates, many):
    """All that gates tell, as the model does."""
    pids = [pid for pid in range(8) if pid in gates]
    told = ([gates.holders(gate) for gate in range(many)], [gates.queue(gate) for gate in range(many)],
            [(pid, gates.effective(pid), gates.held(pid), gates.waiting(pid)) for pid in pids], gates.waits())
    return copy.deepcopy(told)


def random_call(chance, gates, many):
    """A call that raises no error, as a tuple of the method's name and its arguments, or None."""
    pids = [pid for pid in range(8) if pid in gates]
    absent = [pid for pid in range(8) if pid not in gates]
    what = chance.choice(["enter"] * 2 + ["acquire"] * 8 + ["release"] * 4 + ["withdraw", "leave"])
    if what == "enter" or not pids:
        return ("enter", chance.choice(absent), chance.randrange(8)) if absent else None
    pid, gate = chance.choice(pids), chance.randrange(many)
    waiting, held = gates.waiting(pid), gates.held(pid)
    if what == "leave" or what == "withdraw":
        return (what, pid) if what == "leave" or waiting is not None else None
    if waiting is not None:
        return None
    if what == "acquire":
        return (what, pid, gate) if gate not in held else None
    return (what, pid, chance.choice(held)) if held else None


def make(gates, row):
    return getattr(gates, row[0])(*row[1:])


def gates_of(seats, *priorities):
    """Gates with the processes 0, 1, .. of these priorities."""
    gates = Gates(seats)
    for pid, priority in enumerate(priorities):
        gates.enter(pid, priority)
    return gates


class MakingTest(WardCase):
    def test_the_numbers_of_gates_and_seats(self):
        for seats in ([], (), [1], [8], (1, 2), [1, 2, 3, 4, 5, 6, 7, 8], (8,) * 8):
            gates = Gates(seats)
            for pid in range(8):
                gates.enter(pid)
            for gate, many in enumerate(seats):
                self.assertEqual([True] * many + [False] * (8 - many), [gates.acquire(pid, gate) for pid in range(8)])
                for pid in range(many, 8):
                    gates.withdraw(pid)
            for gate in (len(seats), -1):
                self.raised(BadArgument, {"name": "gate"}, gates.holders, gate)
        self.assertEqual([], Gates(seats=[1]).holders(0))

    def test_arguments_are_asked(self):
        wrong = [True, False, None, 0, 1, 8, "", "1", "12", [1] * 9, (1,) * 9, [[1]], [(1,)], [[]]]
        for part in no_integers_of(1, 8):
            wrong.extend([[part], [1, part, 1], (part,), [8] * 7 + [part], (part, 1)])
        self.refused(Gates, {"seats": [1]}, {"seats": wrong})

    def test_the_list_is_not_kept(self):
        seats = [1, 2]
        gates = Gates(seats)
        seats[0] = 2
        seats.clear()
        for pid in range(3):
            gates.enter(pid)
        self.assertEqual([True, False], [gates.acquire(pid, 0) for pid in (0, 1)])
        self.assertEqual([True, True], [gates.acquire(pid, 1) for pid in (0, 2)])


class EnterTest(WardCase):
    def test_enter(self):
        gates = Gates([1])
        self.assertIsNone(gates.enter(5))
        self.assertIsNone(gates.enter(pid=0, priority=7))
        self.assertEqual((3, 7), (gates.effective(5), gates.effective(pid=0)))
        self.same(([], None), (gates.held(5), gates.waiting(5)))
        before = seen(gates, 1)
        self.raised(Taken, {"what": 5}, gates.enter, 5)
        self.raised(Taken, {"what": 0}, gates.enter, 0, 2)
        self.assertEqual(before, seen(gates, 1))

    def test_who_comes_again_begins_anew(self):
        gates = gates_of([1, 1], 7, 2)
        gates.acquire(0, 0)
        gates.acquire(1, 1)
        gates.acquire(0, 1)
        gates.leave(0)
        gates.enter(0, 1)
        self.same(([], None, 1), (gates.held(0), gates.waiting(0), gates.effective(0)))
        self.same(([], [1], []), (gates.holders(0), gates.holders(1), gates.queue(1)))

    def test_arguments_are_asked(self):
        gates = gates_of([1], 3)
        for pid in (0, 1):
            self.refused(gates.enter, {"pid": pid, "priority": 3}, {"pid": NO_PIDS, "priority": NO_PIDS},
                         lambda: seen(gates, 1))

    def test_in_for_every_plain_value(self):
        gates = gates_of([1], 3, 3)
        gates.acquire(1, 0)
        self.same([True, True, False], [pid in gates for pid in (0, 1, 2)])
        for x in NO_INTEGERS + [-1, 8, 10 ** 12 - 1, [[0]], ((1,),), [(0, 1)], "pid"]:
            self.assertIs(False, x in gates, x)


class SeatsTest(WardCase):
    def test_acquire_and_release_of_a_lock(self):
        gates = gates_of([1], 3, 3, 3)
        self.assertIs(True, gates.acquire(1, 0))
        self.assertIs(False, gates.acquire(pid=2, gate=0, cautious=False))
        self.assertIs(False, gates.acquire(0, 0))
        self.same(([1], [2, 0]), (gates.holders(0), gates.queue(gate=0)))
        self.same([(None, [0]), (0, []), (0, [])], [(gates.waiting(pid), gates.held(pid)) for pid in (1, 2, 0)])
        self.same(2, gates.release(1, 0))
        self.same(0, gates.release(pid=2, gate=0))
        self.assertIsNone(gates.release(0, 0))
        self.same(([], []), (gates.holders(gate=0), gates.queue(0)))
        self.assertIs(True, gates.acquire(1, 0))

    def test_the_greatest_priority_is_the_next_one(self):
        gates = gates_of([1], 0, 3, 5, 5, 4)
        for pid in range(5):
            gates.acquire(pid, 0)
        self.same([1, 2, 3, 4], gates.queue(0))
        nexts, pid = [], 0
        while pid is not None:
            pid = gates.release(pid, 0)
            nexts.append(pid)
        self.same([2, 3, 4, 1, None], nexts)

    def test_of_several_the_longest_waiting_one(self):
        gates = gates_of([1], 0, 5, 5, 5, 4)
        for pid in (0, 4, 3, 1, 2):
            gates.acquire(pid, 0)
        gates.withdraw(3)
        gates.acquire(3, 0)
        self.same([4, 1, 2, 3], gates.queue(0))
        self.same([1, 2, 3, 4], [gates.release(pid, 0) for pid in (0, 1, 2, 3)])

    def test_several_seats(self):
        gates = gates_of([2], 1, 2, 3, 4)
        self.assertEqual([True, True, False, False], [gates.acquire(pid, 0) for pid in (3, 1, 0, 2)])
        self.same(([1, 3], [0, 2]), (gates.holders(0), gates.queue(0)))
        self.same([(0, [1, 3]), (2, [1, 3])], gates.waits())
        self.same(2, gates.release(1, 0))
        self.same(([2, 3], [0]), (gates.holders(0), gates.queue(0)))
        self.same(0, gates.release(3, 0))
        self.assertIsNone(gates.release(2, 0))
        self.same([0], gates.holders(0))
        self.assertIs(True, gates.acquire(1, 0))

    def test_lent_priority_counts_when_the_seat_is_given(self):
        gates = gates_of([1, 1], 3, 3, 4, 7)
        gates.acquire(0, 0)
        gates.acquire(1, 1)
        gates.acquire(1, 0)
        gates.acquire(2, 0)
        self.same(4, gates.effective(0))
        # 3 waits for the gate of 1, so 1 goes ahead of 2 now.
        gates.acquire(3, 1)
        self.same(1, gates.release(0, 0))
        gates.withdraw(3)
        gates.release(1, 0)
        self.same([2], gates.holders(0))

    def test_withdraw(self):
        gates = gates_of([1, 1], 3, 3)
        gates.acquire(0, 1)
        gates.acquire(1, 1)
        before = seen(gates, 2)
        self.raised(WrongState, {"what": 0}, gates.withdraw, 0)
        self.assertEqual(before, seen(gates, 2))
        self.same(1, gates.withdraw(1))
        self.same(([0], [], None), (gates.holders(1), gates.queue(1), gates.waiting(1)))
        self.raised(WrongState, {"what": 1}, gates.withdraw, pid=1)
        self.assertIsNone(gates.release(0, 1))

    def test_leave_gives_the_gates_in_ascending_order(self):
        gates = gates_of([1, 1, 1, 1], 3, 4, 5, 6)
        for gate in (2, 0, 1):
            gates.acquire(0, gate)
        gates.acquire(3, 3)
        gates.acquire(1, 2)
        gates.acquire(2, 0)
        gates.acquire(0, 3)
        self.same([(0, 2), (2, 1)], gates.leave(pid=0))
        self.assertNotIn(0, gates)
        self.same([[2], [], [1], [3]], [gates.holders(gate) for gate in range(4)])
        self.same([[]] * 4, [gates.queue(gate) for gate in range(4)])
        self.same([[2], [0], [3]], [gates.held(pid) for pid in (1, 2, 3)])
        self.same([], gates.leave(3))
        self.same([], gates.leave(1))

    def test_each_next_one_holds_its_gate_ahead_of_the_following_release(self):
        # While 2 waits for gate 0, it reaches 3 by way of 1; when gate 1 is given, it waits no more.
        gates = gates_of([2, 1, 1], 0, 2, 7, 1, 3)
        for pid, gate in ((0, 0), (1, 0), (0, 1), (3, 2), (2, 0), (1, 2), (3, 1), (4, 1)):
            gates.acquire(pid, gate)
        self.same([7, 3], [gates.effective(pid) for pid in (3, 4)])
        self.same([(0, 2), (1, 4)], gates.leave(0))
        self.same(([1, 2], [4], [3]), (gates.holders(0), gates.holders(1), gates.queue(1)))

    def test_who_leaves_lends_nothing_any_more(self):
        gates = gates_of([1, 1], 7, 1, 2)
        for pid, gate in ((0, 0), (1, 1), (1, 0), (2, 0), (0, 1)):
            gates.acquire(pid, gate)
        # In the ring 1 has the priority of 0, which is taken out of its queue ahead of its releases.
        self.same([7, 7, 2], [gates.effective(pid) for pid in range(3)])
        self.same([(0, 2)], gates.leave(0))

    def test_wrong_states(self):
        gates = gates_of([1, 1, 2], 3, 3)
        gates.acquire(0, 0)
        gates.acquire(1, 1)
        gates.acquire(1, 0)
        before = seen(gates, 3)
        # 1 waits for gate 0, 0 holds it.
        for gate in range(3):
            for cautious in (True, False):
                self.raised(WrongState, {"what": gate}, gates.acquire, 1, gate, cautious=cautious)
            self.raised(WrongState, {"what": gate}, gates.release, 1, gate)
        for cautious in (True, False):
            self.raised(WrongState, {"what": 0}, gates.acquire, 0, 0, cautious=cautious)
        self.raised(WrongState, {"what": 1}, gates.release, 0, 1)
        self.raised(WrongState, {"what": 2}, gates.release, 0, 2)
        self.assertEqual(before, seen(gates, 3))
        gates.acquire(0, 2)
        self.raised(WrongState, {"what": 2}, gates.acquire, 0, 2)

    def test_unknown_processes(self):
        gates = gates_of([1], 3)
        before = seen(gates, 1)
        for pid in (1, 7):
            for method in (gates.leave, gates.withdraw, gates.effective, gates.held, gates.waiting):
                self.raised(Unknown, {"what": pid}, method, pid)
            self.raised(Unknown, {"what": pid}, gates.acquire, pid, 0)
            self.raised(Unknown, {"what": pid}, gates.acquire, pid, 0, cautious=True)
            self.raised(Unknown, {"what": pid}, gates.release, pid, 0)
        self.assertEqual(before, seen(gates, 1))

    def test_arguments_are_asked(self):
        gates = gates_of([1, 1], 3, 3)
        gates.acquire(0, 0)
        gates.acquire(1, 1)
        gates.acquire(1, 0)
        wrong = {"pid": NO_PIDS, "gate": no_integers_of(0, 1), "cautious": NO_TRUTHS}
        # The wrong argument goes ahead of Unknown and of WrongState.
        for pid in (0, 1, 5):
            for gate in (0, 1):
                self.refused(gates.acquire, {"pid": pid, "gate": gate, "cautious": True}, wrong,
                             lambda: seen(gates, 2))
                self.refused(gates.release, {"pid": pid, "gate": gate},
                             {name: wrong[name] for name in ("pid", "gate")}, lambda: seen(gates, 2))
            for method in (gates.leave, gates.withdraw, gates.effective, gates.held, gates.waiting):
                self.refused(method, {"pid": pid}, {"pid": NO_PIDS}, lambda: seen(gates, 2))
        for method in (gates.holders, gates.queue):
            self.refused(method, {"gate": 0}, {"gate": wrong["gate"]}, lambda: seen(gates, 2))
        gates = gates_of([], 3)
        for gate in [0, 7] + NO_INTEGERS:
            self.raised(BadArgument, {"name": "gate"}, gates.acquire, 0, gate)
            self.raised(BadArgument, {"name": "gate"}, gates.release, 0, gate)
            self.raised(BadArgument, {"name": "gate"}, gates.holders, gate)
            self.raised(BadArgument, {"name": "gate"}, gates.queue, gate)


class CautiousTest(WardCase):
    def test_a_ring_that_closes(self):
        gates = gates_of([1, 1, 1], 3, 3, 3)
        for pid in range(3):
            self.assertIs(True, gates.acquire(pid, pid, cautious=True))
        self.assertIs(False, gates.acquire(0, 1, cautious=True))
        self.assertIs(False, gates.acquire(1, 2, cautious=True))
        before = seen(gates, 3)
        self.raised(RingOfWaits, {"ring": [0, 1, 2]}, gates.acquire, 2, 0, cautious=True)
        self.raised(RingOfWaits, {"ring": [0, 1, 2]}, gates.acquire, 2, 1, cautious=True)
        self.assertEqual(before, seen(gates, 3))
        self.assertIs(False, gates.acquire(2, 0))
        self.same([(0, [1]), (1, [2]), (2, [0])], gates.waits())

    def test_behind_a_ring_that_was_there(self):
        gates = gates_of([1, 1, 1, 1], 3, 3, 3, 3, 3, 3)
        for pid in range(4):
            gates.acquire(pid, pid)
        gates.acquire(2, 1)
        gates.acquire(1, 2)
        self.same([1, 2], find_ring(gates.waits()))
        self.raised(RingOfWaits, {"ring": [1, 2, 5]}, gates.acquire, 5, 2, cautious=True)
        self.assertIs(False, gates.acquire(4, 2))
        self.raised(RingOfWaits, {"ring": [1, 2, 4, 5]}, gates.acquire, 5, 1, cautious=True)
        # Beside the ring it may wait.
        self.assertIs(False, gates.acquire(5, 0, cautious=True))
        self.assertIs(False, gates.acquire(0, 3, cautious=True))
        gates.acquire(3, 1)
        self.same([0, 1, 2, 3, 4, 5], find_ring(gates.waits()))

    def test_a_free_seat_is_taken_though_there_is_a_ring(self):
        gates = gates_of([1, 1, 1], 3, 3, 3)
        gates.acquire(0, 0)
        gates.acquire(1, 1)
        gates.acquire(0, 1)
        gates.acquire(1, 0)
        self.assertIs(True, gates.acquire(2, 2, cautious=True))

    def test_one_holder_that_can_go_on_is_enough(self):
        gates = gates_of([1, 2], 3, 3, 3)
        gates.acquire(0, 0)
        gates.acquire(1, 1)
        gates.acquire(2, 1)
        gates.acquire(1, 0)
        # Of the holders of gate 1, 1 waits for 0, but 2 can go on.
        self.assertIs(False, gates.acquire(0, 1, cautious=True))
        self.same([], find_ring(gates.waits()))
        self.raised(RingOfWaits, {"ring": [0, 1, 2]}, gates.acquire, 2, 0, cautious=True)

    def test_the_list_of_the_error_is_new(self):
        gates = gates_of([1, 1], 3, 3)
        gates.acquire(0, 0)
        gates.acquire(1, 1)
        gates.acquire(0, 1)
        before = seen(gates, 2)
        try:
            gates.acquire(1, 0, cautious=True)
        except RingOfWaits as error:
            error.ring.clear()
        self.assertEqual(before, seen(gates, 2))

    def test_cautious_calls_alone_leave_no_ring(self):
        refused = 0
        for seed in range(30):
            chance = random.Random(seed)
            seats = [chance.choice([1, 1, 2]) for _ in range(chance.randrange(1, 6))]
            gates = Gates(seats)
            for _ in range(300):
                row = random_call(chance, gates, len(seats))
                if row is None:
                    continue
                before = seen(gates, len(seats))
                if row[0] != "acquire":
                    make(gates, row)
                    self.assertEqual([], find_ring(gates.waits()))
                    continue
                try:
                    gates.acquire(*row[1:], cautious=True)
                    self.assertEqual([], find_ring(gates.waits()))
                except RingOfWaits as error:
                    refused += 1
                    self.assertEqual(before, seen(gates, len(seats)))
                    gates.acquire(*row[1:])
                    self.same(find_ring(gates.waits()), error.ring)
                    self.assertIn(row[1], error.ring)
                    gates.withdraw(row[1])
        self.assertGreater(refused, 50)


class LentTest(WardCase):
    def test_over_several_gates(self):
        gates = gates_of([1, 1, 1], 0, 1, 2, 7)
        for pid in range(3):
            gates.acquire(pid, pid)
        self.same([0, 1, 2, 7], [gates.effective(pid) for pid in range(4)])
        gates.acquire(1, 0)
        self.same([1, 1, 2, 7], [gates.effective(pid) for pid in range(4)])
        gates.acquire(2, 1)
        self.same([2, 2, 2, 7], [gates.effective(pid) for pid in range(4)])
        gates.acquire(3, 2)
        self.same([7, 7, 7, 7], [gates.effective(pid) for pid in range(4)])
        gates.withdraw(2)
        self.same([1, 1, 7, 7], [gates.effective(pid) for pid in range(4)])

    def test_to_all_holders_of_a_gate(self):
        gates = gates_of([3], 0, 1, 2, 5, 3)
        for pid in range(5):
            gates.acquire(pid, 0)
        self.same([5, 5, 5, 5, 3], [gates.effective(pid) for pid in range(5)])
        gates.withdraw(3)
        self.same([3, 3, 3, 5, 3], [gates.effective(pid) for pid in range(5)])

    def test_from_several_gates(self):
        gates = gates_of([1, 1], 0, 4, 6)
        gates.acquire(0, 0)
        gates.acquire(0, 1)
        gates.acquire(1, 1)
        gates.acquire(2, 0)
        self.same(6, gates.effective(0))
        gates.withdraw(2)
        self.same(4, gates.effective(0))

    def test_in_a_ring(self):
        gates = gates_of([1, 1, 1], 0, 5, 1, 6, 7)
        for pid in range(3):
            gates.acquire(pid, pid)
        for pid in range(3):
            gates.acquire(pid, (pid + 1) % 3)
        self.same([5, 5, 5, 6, 7], [gates.effective(pid) for pid in range(5)])
        gates.acquire(3, 2)
        self.same([6, 6, 6, 6, 7], [gates.effective(pid) for pid in range(5)])

    def test_less_is_not_lent(self):
        gates = gates_of([1], 5, 2)
        gates.acquire(0, 0)
        gates.acquire(1, 0)
        self.same([5, 2], [gates.effective(0), gates.effective(1)])


class RandomTest(WardCase):
    def test_random_calls_agree_with_the_model(self):
        for seed in range(50):
            chance = random.Random(seed)
            seats = [chance.choice([1, 1, 1, 2, 3]) for _ in range(chance.randrange(1, 9))]
            gates, model = Gates(seats), Model(seats)
            for _ in range(150):
                row = random_call(chance, gates, len(seats))
                if row is not None:
                    self.same(make(model, row), make(gates, row))
                    self.same(model.seen(), seen(gates, len(seats)))

    def test_any_call_answers_or_changes_nothing(self):
        chance = random.Random(99)
        gates = Gates([1, 2])
        for _ in range(2000):
            pid, gate = chance.randrange(-1, 9), chance.randrange(-1, 3)
            row = chance.choice([("enter", pid, gate), ("leave", pid), ("acquire", pid, gate), ("release", pid, gate),
                                 ("withdraw", pid), ("effective", pid), ("held", pid), ("queue", gate)])
            before = seen(gates, 2)
            try:
                make(gates, row)
            except WardError:
                self.assertEqual(before, seen(gates, 2))
            for gate, seats in enumerate((1, 2)):
                self.assertTrue(len(gates.holders(gate)) == seats or not gates.queue(gate))

    def test_questions_ascend(self):
        gates = gates_of([1] * 8, *[3] * 8)
        for gate in (5, 0, 7, 3):
            gates.acquire(4, gate)
        for pid, gate in ((7, 0), (1, 5), (6, 5), (0, 3)):
            gates.acquire(pid, gate)
        self.same([0, 3, 5, 7], gates.held(4))
        self.same([1, 6], gates.queue(5))
        self.same([(0, [4]), (1, [4]), (6, [4]), (7, [4])], gates.waits())

    def test_lists_are_not_handed_out(self):
        gates = gates_of([1, 1], 3, 3)
        gates.acquire(0, 0)
        gates.acquire(1, 0)
        before = seen(gates, 2)
        for told in (gates.holders(0), gates.queue(0), gates.held(0), gates.waits(), gates.waits()[0][1]):
            told.clear()
        self.assertEqual(before, seen(gates, 2))


class StateTest(WardCase):
    def test_a_restored_object_goes_on_alike(self):
        for seed in range(25):
            chance = random.Random(seed)
            many = chance.randrange(1, 9)
            first = Gates([chance.choice([1, 1, 2]) for _ in range(many)])
            self.go_on(chance, first, many, chance.randrange(80))
            before, state = seen(first, many), first.state()
            self.assertTrue(is_plain(state))
            kept = copy.deepcopy(state)
            second = Gates.restored(state)
            self.same(before, seen(second, many))
            self.same(state, second.state())
            rows = self.go_on(chance, second, many, 80)
            self.same(kept, state)
            self.same(before, seen(first, many))
            self.same([told for _, told in rows], [make(first, row) for row, _ in rows])
            self.same((seen(second, many), second.state()), (seen(first, many), first.state()))
            self.same(before, seen(Gates.restored(kept), many))

    def go_on(self, chance, gates, many, calls):
        rows = []
        for _ in range(calls):
            row = random_call(chance, gates, many)
            if row is not None:
                rows.append((row, make(gates, row)))
        return rows

    def test_changing_a_state_changes_nothing(self):
        gates = gates_of([1, 2], 3, 4, 5)
        for pid in range(3):
            gates.acquire(pid, 0)
        before, state = seen(gates, 2), gates.state()
        second = Gates.restored(state)
        third = gates.restored(copy.deepcopy(state))
        spoil(state)
        self.assertEqual([before] * 3, [seen(one, 2) for one in (gates, second, third)])
        self.assertEqual([(0, 2)], second.leave(0))
        self.assertEqual(0, second.withdraw(1))
        self.assertEqual([before] * 2, [seen(one, 2) for one in (gates, third)])
        self.assertIsInstance(second, Gates)
        self.assertIs(True, third.acquire(0, 1))
        self.raised(BadArgument, {"name": "gate"}, third.acquire, 0, 2)

    def test_an_empty_object(self):
        gates = Gates.restored(Gates([]).state())
        self.assertEqual(([], Gates(()).state()), (gates.waits(), gates.state()))


if __name__ == "__main__":
    unittest.main()
