"""Ages, is_pick_log and longest_wait, [27] to [30], and their saved states, [8]."""

import copy
import random
import unittest

from tests.cases import WardCase
from tests.values import NO_INTEGERS, is_plain, no_integers_of
from wardwork.ages import Ages, is_pick_log, longest_wait
from wardwork.errors import BadArgument, Taken, Unknown

NO_PIDS = no_integers_of(0, 7)
NO_TRUTHS = [x for x in NO_INTEGERS if not isinstance(x, bool)] + [0, 1, 2, -1]


def ages_of(*rows):
    """An Ages object with members of these pids and priorities, all ready."""
    ages = Ages()
    for pid, priority in rows:
        ages.enter(pid, priority)
    return ages


def call(ages, row):
    """Makes the call of a row of a pick log."""
    name, *rest = row
    return ages.pick() if name == "pick" else getattr(ages, name)(*rest)


def random_row(chance, ages, everybody=range(8)):
    """A row of a pick log that can be made as things stand, without its pick."""
    there = [row[0] for row in ages.rows()]
    free = [pid for pid in everybody if pid not in there]
    if chance.randrange(3) or not there:
        if free and (not there or chance.randrange(8) == 0):
            return ("enter", chance.choice(free), chance.randrange(8))
        return ("pick",)
    name = chance.choice(["sleep", "wake", "wake", "lend", "lend", "leave"])
    rest = (chance.randrange(8),) if name == "lend" else ()
    return (name, chance.choice(there)) + rest


def random_log(chance, many, ages=None):
    """A pick log, made by calls of an Ages object."""
    ages = ages or Ages()
    log = []
    for _ in range(many):
        row = random_row(chance, ages)
        told = call(ages, row)
        log.append(row + (told,) if row == ("pick",) else row)
    return log


class MembersTest(WardCase):
    def test_enter_and_leave(self):
        ages = Ages()
        self.same([], ages.rows())
        self.assertIsNone(ages.enter(5))
        self.assertIsNone(ages.enter(0, 7, ready=False))
        self.assertIsNone(ages.enter(pid=7, priority=0, ready=True))
        self.same([(0, 7, 0, False, 0), (5, 3, 0, True, 0), (7, 0, 0, True, 0)], ages.rows())
        self.assertIsNone(ages.leave(5))
        self.assertIsNone(ages.leave(pid=0))
        self.same([(7, 0, 0, True, 0)], ages.rows())
        ages.enter(5, 1)
        self.same([(5, 1, 0, True, 0), (7, 0, 0, True, 0)], ages.rows())

    def test_who_comes_again_begins_anew(self):
        ages = ages_of((0, 0), (1, 7))
        ages.lend(0, 6)
        ages.pick()
        self.assertEqual((0, 0, 6, True, 1), ages.rows()[0])
        ages.leave(0)
        ages.enter(0, 2)
        self.assertEqual((0, 2, 0, True, 0), ages.rows()[0])

    def test_taken_and_unknown(self):
        ages = ages_of((3, 3))
        before = ages.rows()
        self.raised(Taken, {"what": 3}, ages.enter, 3)
        self.raised(Taken, {"what": 3}, ages.enter, 3, 5, ready=False)
        for pid in (0, 7):
            for method in (ages.leave, ages.wake, ages.sleep, ages.lend, ages.priority, ages.age):
                self.raised(Unknown, {"what": pid}, method, pid)
        self.assertEqual(before, ages.rows())

    def test_arguments_are_asked(self):
        wrong = {"pid": NO_PIDS, "priority": NO_PIDS, "ready": NO_TRUTHS}
        ages = ages_of((0, 1), (1, 2))
        ages.pick()
        # The wrong argument goes ahead of Taken and of Unknown.
        for pid in (0, 1, 5):
            self.refused(ages.enter, {"pid": pid, "priority": 0, "ready": True}, wrong, ages.rows)
            self.refused(ages.lend, {"pid": pid, "priority": 0}, wrong, ages.rows)
            for method in (ages.leave, ages.wake, ages.sleep, ages.priority, ages.age):
                self.refused(method, {"pid": pid}, wrong, ages.rows)

    def test_in_for_every_plain_value(self):
        ages = ages_of((0, 3), (1, 3))
        ages.sleep(1)
        self.same([True, True, False], [pid in ages for pid in (0, 1, 2)])
        for x in NO_INTEGERS + [-1, 8, 10 ** 12 - 1, [[0]], ((1,),), [(0, 1)], "pid"]:
            self.assertIs(False, x in ages, x)

    def test_sleep_and_wake(self):
        ages = ages_of((0, 7), (1, 0))
        ages.pick()
        self.assertEqual(1, ages.age(1))
        self.assertIsNone(ages.wake(1))
        self.assertEqual((1, 0, 0, True, 1), ages.rows()[1])
        self.assertIsNone(ages.sleep(1))
        self.same((1, 0, 0, False, 0), ages.rows()[1])
        ages.sleep(pid=1)
        self.same((1, 0, 0, False, 0), ages.rows()[1])
        ages.pick()
        self.assertEqual(0, ages.age(pid=1))
        ages.wake(pid=1)
        self.same((1, 0, 0, True, 0), ages.rows()[1])
        ages.pick()
        self.assertEqual(1, ages.age(1))

    def test_lent_priorities(self):
        ages = ages_of((0, 3), (1, 5))
        self.assertIsNone(ages.lend(0, 7))
        self.assertEqual([7, 5], [ages.priority(0), ages.priority(pid=1)])
        ages.lend(1, 4)
        self.assertEqual(5, ages.priority(1))
        ages.pick()
        ages.lend(pid=1, priority=6)
        self.assertEqual([(0, 3, 7, True, 0), (1, 5, 6, True, 1)], ages.rows())
        ages.lend(0)
        self.assertEqual([3, 6], [ages.priority(0), ages.priority(1)])
        ages.sleep(0)
        ages.lend(0, 5)
        self.same((0, 3, 5, False, 0), ages.rows()[0])
        ages.wake(0)
        self.same((0, 3, 5, True, 0), ages.rows()[0])
        ages.sleep(0)
        self.assertEqual(5, ages.priority(0))


class PickTest(WardCase):
    def test_nobody_is_ready(self):
        ages = Ages()
        self.assertIsNone(ages.pick())
        ages.enter(2, 7, ready=False)
        self.assertIsNone(ages.pick())
        self.same([(2, 7, 0, False, 0)], ages.rows())

    def test_priorities_and_ages_add_up(self):
        ages = ages_of((4, 1), (2, 3))
        self.assertEqual([2, 2, 2, 4, 2], [ages.pick() for _ in range(5)])
        self.assertEqual([(2, 3, 0, True, 0), (4, 1, 0, True, 1)], ages.rows())

    def test_the_least_pid_wins_a_tie(self):
        ages = ages_of((7, 3), (3, 3), (5, 3))
        self.assertEqual([3, 5, 7, 3, 5, 7], [ages.pick() for _ in range(6)])
        ages = ages_of((6, 4), (1, 3))
        self.assertEqual([6, 1, 6, 1], [ages.pick() for _ in range(4)])

    def test_lent_priorities_count(self):
        ages = ages_of((0, 5), (1, 2))
        ages.lend(1, 6)
        self.assertEqual([1, 0, 1, 0, 1], [ages.pick() for _ in range(5)])
        ages.lend(1, 0)
        self.assertEqual(0, ages.pick())

    def test_sleepers_are_not_picked_and_do_not_age(self):
        ages = ages_of((0, 7), (1, 0), (2, 0))
        ages.sleep(0)
        self.assertEqual([1, 2, 1], [ages.pick() for _ in range(3)])
        self.same([(0, 7, 0, False, 0), (1, 0, 0, True, 0), (2, 0, 0, True, 1)], ages.rows())
        ages.wake(0)
        self.assertEqual(0, ages.pick())

    def test_one_member_alone(self):
        ages = ages_of((7, 0))
        self.assertEqual([7, 7, 7], [ages.pick() for _ in range(3)])
        self.assertEqual(0, ages.age(7))

    def test_lists_are_not_handed_out(self):
        ages = ages_of((0, 1))
        ages.rows().clear()
        ages.rows()[0] = None
        self.assertEqual([(0, 1, 0, True, 0)], ages.rows())

    def test_random_calls_agree_with_a_model(self):
        for seed in range(8):
            chance = random.Random(seed)
            ages, model = Ages(), {}
            for _ in range(300):
                row = random_row(chance, ages)
                self.same(self.model_call(model, row), call(ages, row))
                rows = [(pid, *model[pid]) for pid in sorted(model)]
                self.same(rows, ages.rows())
                for pid, base, lent, _, age in rows:
                    self.assertEqual((max(base, lent), age), (ages.priority(pid), ages.age(pid)))

    def model_call(self, model, row):
        if row[0] == "pick":
            return self.model_pick(model)
        pid = row[1]
        if row[0] == "leave":
            del model[pid]
        elif row[0] == "enter":
            model[pid] = (row[2], 0, True, 0)
        else:
            base, lent, ready, age = model[pid]
            changes = {"sleep": (base, lent, False, 0), "wake": (base, lent, True, age if ready else 0)}
            model[pid] = (base, row[2], ready, age) if row[0] == "lend" else changes[row[0]]
        return None

    def model_pick(self, model):
        sums = sorted((-max(base, lent) - age, pid) for pid, (base, lent, ready, age) in model.items() if ready)
        for pid, (base, lent, ready, age) in model.items():
            if ready:
                model[pid] = (base, lent, ready, 0 if pid == sums[0][1] else age + 1)
        return sums[0][1] if sums else None


class BoundTest(WardCase):
    def test_the_sum(self):
        for priority in range(8):
            self.same(14 - priority, Ages.bound(priority))
            for count in range(1, 9):
                self.same(6 - priority + count, Ages.bound(priority, count))
                self.same(6 - priority + count, Ages().bound(priority=priority, count=count))

    def test_arguments_are_asked(self):
        wrong = {"priority": NO_PIDS, "count": no_integers_of(1, 8)}
        self.refused(Ages.bound, {"priority": 0, "count": 1}, wrong)

    def test_the_bound_is_kept_and_met(self):
        """With others that get all that can be lent, the bound is met, and no pick goes beyond it."""
        for priority in range(8):
            for count in range(2, 9):
                ages = ages_of((7, priority))
                for pid in range(count - 1):
                    ages.enter(pid, 7)
                waits = [0]
                for _ in range(200):
                    if ages.pick() == 7:
                        waits.append(0)
                    else:
                        waits[-1] += 1
                self.assertLessEqual(max(waits), Ages.bound(priority, count))
                self.assertEqual(max(waits), Ages.bound(priority, count), (priority, count))

    def test_the_bound_holds_after_any_calls(self):
        for seed in range(40):
            chance = random.Random(seed)
            count = chance.randrange(2, 9)
            ages = Ages()
            waits, bases = {}, {}
            for _ in range(500):
                row = random_row(chance, ages, range(count))
                told = call(ages, row)
                if row[0] == "enter":
                    bases[row[1]] = row[2]
                for pid, _, _, ready, _ in ages.rows():
                    others = row == ("pick",) and told != pid
                    waits[pid] = waits.get(pid, 0) + others if ready and told != pid and row[0] != "enter" else 0
                    self.assertLessEqual(waits[pid], Ages.bound(bases[pid], count))


class StateTest(WardCase):
    def test_a_restored_object_goes_on_alike(self):
        for seed in range(10):
            chance = random.Random(seed)
            first = Ages()
            random_log(chance, chance.randrange(40), first)
            rows, state = first.rows(), first.state()
            self.assertEqual(rows, first.rows())
            self.assertTrue(is_plain(state))
            kept = copy.deepcopy(state)
            second = Ages.restored(state)
            self.same(state, second.state())
            self.same(rows, second.rows())
            log = random_log(chance, 60, second)
            self.same(kept, state)
            self.same(rows, first.rows())
            self.same([row[1] for row in log if row[0] == "pick"],
                      [told for row in log for told in [self.again(first, row)] if row[0] == "pick"])
            self.same(second.state(), first.state())
            self.same(second.rows(), first.rows())
            self.same(rows, Ages.restored(kept).rows())

    def again(self, ages, row):
        return call(ages, row[:1] if row[0] == "pick" else row)

    def test_changing_a_state_changes_nothing(self):
        ages = ages_of((0, 1), (1, 2))
        ages.pick()
        rows = ages.rows()
        state = ages.state()
        second = Ages.restored(state)
        third = ages.restored(copy.deepcopy(state))
        state.clear()
        self.assertEqual([rows] * 3, [one.rows() for one in (ages, second, third)])
        second.pick()
        second.sleep(0)
        self.assertEqual([rows] * 2, [one.rows() for one in (ages, third)])
        self.assertIsInstance(second, Ages)

    def test_an_empty_object(self):
        self.assertEqual([], Ages.restored(Ages().state()).rows())


LOG = [("enter", 1, 3), ("enter", 0, 3), ("pick", 0), ("pick", 1), ("lend", 1, 7), ("sleep", 0), ("pick", 1),
       ("wake", 0), ("leave", 1), ("pick", 0), ("sleep", 0), ("pick", None)]


class PickLogTest(WardCase):
    def test_right_logs(self):
        for log in ([], LOG, [("pick", None)], [("enter", 7, 0)], [("enter", 0, 7), ("leave", 0), ("enter", 0, 7)]):
            self.assertIs(True, is_pick_log(log))
        self.assertIs(True, is_pick_log(log=LOG[:5]))
        for seed in range(30):
            chance = random.Random(seed)
            self.assertIs(True, is_pick_log(random_log(chance, chance.randrange(301))))

    def test_at_most_300_rows(self):
        log = [("enter", 0, 0)] + [("pick", 0)] * 299
        self.assertIs(True, is_pick_log(log))
        self.assertIs(False, is_pick_log(log + [("pick", 0)]))
        self.assertIs(True, is_pick_log([("pick", None)] * 300))
        self.assertIs(False, is_pick_log([("pick", None)] * 301))

    def test_no_list_of_tuples(self):
        for log in [x for x in NO_INTEGERS if x != []] + [tuple(LOG), (), "pick", [[]], [()], [LOG], [list(LOG[0])]]:
            self.assertIs(False, is_pick_log(log), log)

    def test_one_wrong_place(self):
        """Every other value in the place of one part of the log, or of one row, makes it wrong."""
        others = [True, False, None, 0, 1, 2, 8, -1, "", "0", "pick", "enter", [0], (0,), [], (), [[1]], [None]]
        for at, row in enumerate(LOG):
            for row_like in others + [list(row), row + (0,), row[:-1], (row,), row + (None,)]:
                self.assertIs(False, is_pick_log(LOG[:at] + [row_like] + LOG[at + 1:]), (at, row_like))
            for k, part in enumerate(row):
                for other in others:
                    if repr(other) != repr(part) and not self.is_right_too(row[0], k, other):
                        changed = row[:k] + (other,) + row[k + 1:]
                        self.assertIs(False, is_pick_log(LOG[:at] + [changed] + LOG[at + 1:]), (at, changed))

    def is_right_too(self, name, k, other):
        """Other priorities, and a lend to process 0, change no pick of the log."""
        if not isinstance(other, int) or isinstance(other, bool):
            return False
        return (k == 2 and 0 <= other <= 7) or (name == "lend" and other == 0)

    def test_true_is_not_1_and_false_is_not_0(self):
        for log in ([("enter", True, 3)], [("enter", 1, True)], [("enter", 0, False)], [("enter", False, 0)],
                    [("enter", 1, 1), ("pick", True)], [("enter", 0, 1), ("pick", False)],
                    [("enter", 1, 1), ("lend", 1, True)], [("enter", 1, 1), ("lend", True, 1)],
                    [("enter", 1, 1), ("sleep", True)], [("enter", 1, 1), ("wake", True)],
                    [("enter", 1, 1), ("leave", True)]):
            self.assertIs(False, is_pick_log(log), log)
            right = [tuple(int(part) if isinstance(part, bool) else part for part in row) for row in log]
            self.assertIs(True, is_pick_log(right), right)

    def test_calls_that_would_raise(self):
        for row in (("enter", 0, 3), ("leave", 2), ("wake", 2), ("sleep", 2), ("lend", 2, 1), ("lend", 0, 8),
                    ("enter", 8, 3), ("enter", 2, 8), ("enter", 2, -1), ("leave", 8), ("pick", 8), ("pick", -1)):
            self.assertIs(False, is_pick_log([("enter", 0, 3), row]), row)
        self.assertIs(False, is_pick_log([("leave", 0)]))
        self.assertIs(False, is_pick_log([("enter", 0, 3), ("leave", 0), ("leave", 0)]))

    def test_wrong_picks(self):
        for who in (1, None, 2):
            self.assertIs(False, is_pick_log([("enter", 0, 3), ("enter", 1, 3), ("pick", who)]))
        self.assertIs(False, is_pick_log([("pick", 0)]))
        self.assertIs(False, is_pick_log([("enter", 0, 3), ("sleep", 0), ("pick", 0)]))

    def test_wrong_names(self):
        for name in ("Pick", "", "picks", "age", "rows", "priority", "state", "enters"):
            for rest in ((), (0,), (0, 3)):
                self.assertIs(False, is_pick_log([("enter", 0, 3), (name,) + rest]))

    def test_the_log_is_not_changed(self):
        log = list(LOG)
        is_pick_log(log)
        self.assertEqual(LOG, log)


class LongestWaitTest(WardCase):
    def test_picks_of_others(self):
        log = [("enter", 0, 7), ("enter", 1, 5), ("pick", 0), ("pick", 0), ("pick", 0), ("pick", 1), ("pick", 0)]
        self.assertTrue(is_pick_log(log))
        self.same([1, 3, 0], [longest_wait(log, pid) for pid in (0, 1, 2)])
        self.same(3, longest_wait(log=log, pid=1))
        self.same(3, longest_wait(log[:6], 1))
        self.same(2, longest_wait(log[:4], 1))
        self.same(0, longest_wait([], 0))

    def wait_of(self, *rows):
        """The longest wait of process 1 beside a process 0 of priority 7, over a right log."""
        log = [("enter", 0, 7), *rows]
        self.assertTrue(is_pick_log(log), log)
        return longest_wait(log, 1)

    def test_what_does_not_end_a_wait(self):
        enter, pick = ("enter", 1, 0), ("pick", 0)
        self.assertEqual(2, self.wait_of(enter, pick, pick))
        self.assertEqual(2, self.wait_of(enter, pick, ("wake", 1), pick))
        self.assertEqual(2, self.wait_of(enter, pick, ("lend", 1, 1), pick))
        self.assertEqual(2, self.wait_of(enter, pick, ("lend", 1, 0), ("lend", 0, 7), ("wake", 0), pick))
        self.assertEqual(2, self.wait_of(enter, pick, ("enter", 2, 0), ("sleep", 2), ("leave", 2), pick))
        self.assertEqual(2, self.wait_of(enter, pick, ("leave", 0), ("enter", 0, 7), pick))

    def test_what_ends_a_wait(self):
        enter, pick = ("enter", 1, 0), ("pick", 0)
        self.assertEqual(1, self.wait_of(enter, pick, ("sleep", 1), pick, pick, ("wake", 1), pick))
        self.assertEqual(1, self.wait_of(enter, pick, ("sleep", 1), ("wake", 1), pick))
        self.assertEqual(1, self.wait_of(enter, pick, ("leave", 1), ("enter", 1, 0), pick))
        self.assertEqual(1, self.wait_of(enter, pick, ("leave", 1), pick, pick))
        self.assertEqual(0, self.wait_of(pick, pick))
        self.assertEqual(1, self.wait_of(pick, pick, enter, pick))
        self.assertEqual(1, self.wait_of(("enter", 1, 7), pick, ("pick", 1), pick))
        self.assertEqual(2, self.wait_of(("enter", 1, 6), pick, pick, ("pick", 1), pick))
        self.assertEqual(0, self.wait_of(enter, ("sleep", 0), ("pick", 1), ("pick", 1)))
        self.assertEqual(0, self.wait_of(enter, ("sleep", 1), pick, ("sleep", 0), ("pick", None)))
        # The longest one counts, not the last one.
        self.assertEqual(3, self.wait_of(enter, pick, pick, pick, ("sleep", 1), ("wake", 1), pick))

    def test_pid_is_asked(self):
        self.refused(longest_wait, {"log": LOG, "pid": 0}, {"pid": NO_PIDS})
        self.raised(BadArgument, {"name": "pid"}, longest_wait, [], 8)

    def test_random_logs(self):
        for seed in range(40):
            chance = random.Random(seed)
            log = random_log(chance, 200)
            for pid in range(8):
                self.same(self.by_pieces(log, pid), longest_wait(log, pid))

    def by_pieces(self, log, pid):
        """Goes over the log with a new Ages object and tells the longest row of picks of others."""
        ages, waits = Ages(), [0]
        for row in log:
            call(ages, row[:1] if row[0] == "pick" else row)
            ready = any(one[0] == pid and one[3] for one in ages.rows())
            if row[0] == "pick" and row[1] != pid and ready:
                waits[-1] += 1
            elif not ready or row == ("pick", pid):
                waits.append(0)
        return max(waits)


if __name__ == "__main__":
    unittest.main()
