"""Rights, [67] to [69], and their saved states, [8]."""

import copy
import random
import unittest

from tests.cases import WardCase
from tests.values import ANYTHING, NO_INTEGERS, is_plain, no_integers_of, spoil
from wardwork.errors import BadArgument, Full, NotAllowed, Unknown
from wardwork.rights import Rights, is_book

MARKS = ["", "r", "w", "g", "rw", "rg", "wg", "rwg"]
NO_MARKS = [x for x in NO_INTEGERS if x != ""] + ["wr", "gr", "gw", "rr", "rwgr", "gwr", "wrg", "rgw", "R", "x", "r ", " ",
                                                  "rwx", "r,w", ["r"], ["r", "w"], ("r",), "rwgg"]
NO_MARK = NO_MARKS + ["", "rw", "rg", "wg", "rwg"]
NO_THINGS = [x for x in NO_INTEGERS if x not in ("0", "1", "a")] + [
    "", "A", "a b", " a", "a ", "a.b", "a-b", "a_b", "a,b", "a" * 121, "/" * 121, "a\\b", "~", "a&b", "a;", ["a"],
    ("a",), "a'", "a" * 120 + " "]
NO_NUMBERS = no_integers_of(0, 99)
NO_HOLDERS = no_integers_of(0, 7)


class Model:
    """Rights as [68] tells, one dict for each right that was ever made, with a set of marks."""

    def __init__(self):
        self.made = []

    def make(self, holder, thing, marks, above):
        self.made.append({"holder": holder, "thing": thing, "marks": set(marks), "above": above, "live": True})
        return len(self.made) - 1

    def root(self, holder, thing, marks):
        return self.make(holder, thing, marks, None)

    def hand_on(self, number, to, marks):
        return self.make(to, self.made[number]["thing"], marks, number)

    def narrow(self, number, marks):
        before = self.live()
        self.leave(number, set(marks))
        return [one for one in before if not self.made[one]["live"]]

    def leave(self, number, marks):
        right = self.made[number]
        right["marks"] &= marks
        right["live"] = right["live"] and bool(right["marks"])
        for child, row in enumerate(self.made):
            if row["above"] == number:
                self.leave(child, marks if "g" in marks else set())

    def live(self):
        return [number for number, row in enumerate(self.made) if row["live"]]

    def row(self, number):
        row = self.made[number]
        return (number, row["holder"], row["thing"], "".join(m for m in "rwg" if m in row["marks"]), row["above"])

    def rows(self):
        return [self.row(number) for number in self.live()]


def seen(rights):
    return copy.deepcopy((rights.rows(), list(rights), rights.state()))


def family():
    """Rights over four layers: 0 above 1 and 2, 1 above 3 and 4, 3 above 5, 2 above 6; 7 is a root of its own."""
    rights = Rights()
    rights.root(0, "a", "rwg")
    rights.hand_on(0, 1, "rwg")
    rights.hand_on(0, 2, "rg")
    rights.hand_on(1, 3, "rwg")
    rights.hand_on(1, 4, "w")
    rights.hand_on(3, 5, "rw")
    rights.hand_on(2, 6, "r")
    rights.root(1, "a", "rw")
    return rights


class MakeTest(WardCase):
    def test_roots(self):
        rights = Rights()
        self.same(0, rights.root(3, "pipe:0"))
        self.same(1, rights.root(0, "/a/b", "r"))
        self.same(2, rights.root(holder=7, thing="0", marks="wg"))
        # Equal rights may be made.
        self.same(3, rights.root(0, "/a/b", "r"))
        self.same([(0, 3, "pipe:0", "rwg", None), (1, 0, "/a/b", "r", None), (2, 7, "0", "wg", None),
                   (3, 0, "/a/b", "r", None)], rights.rows())
        for marks in MARKS[1:]:
            number = rights.root(1, "x", marks)
            self.same((number, 1, "x", marks, None), rights.row(number))

    def test_things(self):
        rights = Rights()
        for thing in ("a", "z", "0", "9", "/", ":", "//::", "a" * 120, "pipe:0/x9"):
            number = rights.root(0, thing)
            self.same(thing, rights.row(number)[2])

    def test_hand_on(self):
        rights = Rights()
        rights.root(0, "a", "rwg")
        self.same(1, rights.hand_on(0, 1, "rg"))
        self.same(2, rights.hand_on(number=1, to=0, marks="g"))
        self.same(3, rights.hand_on(0, 0, "rwg"))
        self.same([(0, 0, "a", "rwg", None), (1, 1, "a", "rg", 0), (2, 0, "a", "g", 1), (3, 0, "a", "rwg", 0)],
                  rights.rows())

    def test_not_allowed(self):
        for marks in MARKS[1:]:
            for given in MARKS[1:]:
                rights = Rights()
                rights.root(0, "a", marks)
                before = seen(rights)
                if "g" in marks and set(given) <= set(marks):
                    self.same(1, rights.hand_on(0, 5, given))
                    self.same((1, 5, "a", given, 0), rights.row(1))
                else:
                    self.raised(NotAllowed, {"what": 0}, rights.hand_on, 0, 5, given)
                    self.same(before, seen(rights))

    def test_100_rights(self):
        rights = Rights()
        for number in range(50):
            self.same(number, rights.root(0, "a", "rg"))
            rights.take_back(number)
        self.same(50, rights.root(0, "a", "rg"))
        for number in range(51, 100):
            self.same(number, rights.hand_on(number - 1, 1, "rg"))
        before = seen(rights)
        self.raised(Full, {"what": "rights"}, rights.root, 0, "a", "r")
        self.raised(Full, {"what": "rights"}, rights.hand_on, 99, 0, "r")
        # All other errors go ahead of Full.
        self.raised(BadArgument, {"name": "marks"}, rights.root, 0, "a", "")
        self.raised(NotAllowed, {"what": 99}, rights.hand_on, 99, 0, "w")
        self.raised(Unknown, {"what": 0}, rights.hand_on, 0, 0, "r")
        self.same(before, seen(rights))
        rights.take_back(50)
        self.raised(Full, {"what": "rights"}, rights.root, 0, "a", "r")

    def test_arguments_are_asked(self):
        for rights in (Rights(), family()):
            right = {"holder": 0, "thing": "a", "marks": "r"}
            wrong = {"holder": NO_HOLDERS, "thing": NO_THINGS, "marks": NO_MARKS + [""]}
            self.refused(rights.root, right, wrong, lambda: seen(rights))
            wrong = {"number": NO_NUMBERS, "to": NO_HOLDERS, "marks": NO_MARKS + [""]}
            for number in (0, 3, 8, 99):
                right = {"number": number, "to": 0, "marks": "r"}
                self.refused(rights.hand_on, right, wrong, lambda: seen(rights))


class NarrowTest(WardCase):
    def test_no_mark_is_left(self):
        for call in (Rights.take_back, Rights.narrow, lambda rights, number: rights.narrow(number, "")):
            for number, gone in ((0, [0, 1, 2, 3, 4, 5, 6]), (1, [1, 3, 4, 5]), (2, [2, 6]), (3, [3, 5]), (4, [4]),
                                 (5, [5]), (6, [6]), (7, [7])):
                rights = family()
                left = [row for row in rights.rows() if row[0] not in gone]
                self.same(gone, call(rights, number))
                self.same(left, rights.rows())
                for one in gone:
                    self.raised(Unknown, {"what": one}, rights.row, one)

    def test_without_g(self):
        rights = family()
        self.same([6], rights.narrow(2, "r"))
        self.same((2, 2, "a", "r", 0), rights.row(2))
        self.same([1, 2, 3, 4, 5], rights.narrow(0, "rw"))
        self.same([(0, 0, "a", "rw", None), (7, 1, "a", "rw", None)], rights.rows())
        self.same([], rights.narrow(0, "rw"))
        self.same([], rights.narrow(7, "r"))
        self.same([(0, 0, "a", "rw", None), (7, 1, "a", "r", None)], rights.rows())

    def test_with_g(self):
        rights = family()
        self.same([4], rights.narrow(0, "rg"))
        self.same([(0, 0, "a", "rg", None), (1, 1, "a", "rg", 0), (2, 2, "a", "rg", 0), (3, 3, "a", "rg", 1),
                   (5, 5, "a", "r", 3), (6, 6, "a", "r", 2), (7, 1, "a", "rw", None)], rights.rows())
        rights = family()
        self.same([4, 5, 6], rights.narrow(0, "g"))
        self.same([(0, "g"), (1, "g"), (2, "g"), (3, "g"), (7, "rw")], [(row[0], row[3]) for row in rights])
        rights = family()
        self.same([6], rights.narrow(0, marks="wg"))
        rights = family()
        before = rights.rows()
        self.same([], rights.narrow(0, "rwg"))
        self.same(before, rights.rows())

    def test_not_allowed(self):
        for marks in MARKS[1:]:
            for less in MARKS:
                rights = Rights()
                rights.root(0, "a", marks)
                if set(less) <= set(marks):
                    self.same([0] if less == "" else [], rights.narrow(0, less))
                    self.same([] if less == "" else [(0, 0, "a", less, None)], rights.rows())
                else:
                    before = seen(rights)
                    self.raised(NotAllowed, {"what": 0}, rights.narrow, 0, less)
                    self.same(before, seen(rights))

    def test_gone_rights_and_numbers_never_made(self):
        rights = family()
        rights.take_back(1)
        for number in (1, 3, 4, 5, 8, 99):
            for call in ((rights.narrow, number), (rights.narrow, number, "rwg"), (rights.take_back, number),
                         (rights.row, number), (rights.above, number), (rights.hand_on, number, 0, "r")):
                before = seen(rights)
                self.raised(Unknown, {"what": number}, *call)
                self.same(before, seen(rights))
        self.same(8, rights.root(0, "a"))

    def test_arguments_are_asked(self):
        rights = family()
        rights.take_back(1)
        for number in (0, 1, 99):
            self.refused(rights.narrow, {"number": number, "marks": "r"}, {"number": NO_NUMBERS, "marks": NO_MARKS},
                         lambda: seen(rights))
        for call in (rights.take_back, rights.row, rights.above):
            self.refused(call, {"number": 0}, {"number": NO_NUMBERS}, lambda: seen(rights))


class QuestionTest(WardCase):
    def test_questions(self):
        rights = family()
        self.same([1, 7], rights.held(1))
        self.same([0], rights.held(holder=0))
        self.same([], rights.held(7))
        self.same([0, 1, 2, 3, 5, 6], rights.who("a", "r"))
        self.same([0, 1, 3, 4, 5], rights.who(thing="a", mark="w"))
        self.same([0, 1, 2, 3], rights.who("a", "g"))
        self.same([], rights.who("b", "r"))
        self.same([3, 1, 0], rights.above(5))
        self.same([2, 0], rights.above(number=6))
        self.same([0], rights.above(1))
        self.same([[], []], [rights.above(0), rights.above(7)])
        self.same(rights.rows(), list(rights))
        self.same([(row, other) for row in rights.rows() for other in rights.rows()],
                  [(row, other) for row in rights for other in rights])
        for question in ((4, "a", "w"), (1, "a", "g"), (6, "a", "r")):
            self.assertIs(True, rights.may(*question))
        for question in ((4, "a", "r"), (6, "a", "g"), (7, "a", "r"), (0, "b", "r")):
            self.assertIs(False, rights.may(*question))
        self.assertIs(True, rights.may(holder=0, thing="a", mark="g"))

    def test_a_new_object(self):
        rights = Rights()
        self.same(([], [], [], []), (rights.rows(), list(rights), rights.held(0), rights.who("a", "r")))
        self.assertIs(False, rights.may(0, "a", "r"))
        self.assertNotIn(0, rights)

    def test_in(self):
        rights = family()
        rights.take_back(3)
        self.assertEqual([0, 1, 2, 4, 6, 7], [number for number in range(-2, 120) if number in rights])
        for x in [True, False, None, "0", "", "a", [0], [], (0,), (), [[0]], (0, 0, "a", "rwg", None)] + ANYTHING[2:3]:
            self.assertIs(False, x in rights, x)
        self.assertIs(False, 10 ** 12 - 1 in rights)
        self.assertIs(True, 1 in rights)

    def test_arguments_are_asked(self):
        rights = family()
        self.refused(rights.held, {"holder": 0}, {"holder": NO_HOLDERS})
        self.refused(rights.may, {"holder": 0, "thing": "a", "mark": "r"},
                     {"holder": NO_HOLDERS, "thing": NO_THINGS, "mark": NO_MARK})
        self.refused(rights.who, {"thing": "a", "mark": "r"}, {"thing": NO_THINGS, "mark": NO_MARK})

    def test_lists_are_new(self):
        rights = family()
        before = seen(rights)
        for told in (rights.rows(), rights.held(0), rights.who("a", "r"), rights.above(5)):
            told.clear()
        gone = rights.narrow(0, "rwg")
        gone.append(5)
        self.same(before, seen(rights))


def random_call(chance, model):
    """A call that raises no error, as a tuple of the method's name and its arguments."""
    live = model.live()
    givers = [number for number in live if "g" in model.made[number]["marks"]]
    what = chance.choice(["root", "hand_on", "hand_on", "hand_on", "hand_on", "narrow", "take_back"])
    if len(model.made) == 100 and what in ("root", "hand_on"):
        what = "narrow"
    if what == "hand_on" and givers:
        number = chance.choice(givers)
        given = model.row(number)[3]
        marks = "".join(mark for mark in given if chance.randrange(3)) or given
        return ("hand_on", number, chance.randrange(8), marks)
    if what in ("narrow", "take_back") and live:
        number = chance.choice(live)
        if what == "take_back" and chance.randrange(3) == 0:
            return ("take_back", number)
        return ("narrow", number, "".join(mark for mark in model.row(number)[3] if chance.randrange(4)))
    if len(model.made) == 100:
        return None
    return ("root", chance.randrange(8), chance.choice(["a", "b/c"]), chance.choice(MARKS[1:] + ["rwg"] * 4))


def call_model(model, call):
    if call[0] == "take_back":
        return model.narrow(call[1], "")
    return getattr(model, call[0])(*call[1:])


class RandomTest(WardCase):
    def agree(self, model, rights):
        rows = model.rows()
        self.same((rows, rows), (rights.rows(), list(rights)))
        self.same(model.live(), [number for number in range(100) if number in rights])
        for number in model.live():
            above, chain = model.made[number]["above"], []
            while above is not None:
                chain.append(above)
                above = model.made[above]["above"]
            self.same((model.row(number), chain), (rights.row(number), rights.above(number)))
        for holder in range(8):
            self.same([row[0] for row in rows if row[1] == holder], rights.held(holder))
        for thing in ("a", "b/c", "c"):
            for mark in "rwg":
                may = [any(row[1] == holder and row[2] == thing and mark in row[3] for row in rows)
                       for holder in range(8)]
                self.same(may, [rights.may(holder, thing, mark) for holder in range(8)])
                self.same([holder for holder in range(8) if may[holder]], rights.who(thing, mark))

    def test_random_calls_agree_with_a_model(self):
        for seed in range(15):
            chance = random.Random(seed)
            model, rights, roots = Model(), Rights(), []
            for _ in range(70):
                call = random_call(chance, model)
                if call is None:
                    break
                told = getattr(rights, call[0])(*call[1:])
                self.same(call_model(model, call), told)
                if call[0] == "root":
                    roots.append((told, *call[1:]))
                self.agree(model, rights)
                self.assertIs(True, is_book(rights.rows(), roots))

    def test_a_restored_object_goes_on_alike(self):
        for seed in range(25):
            chance = random.Random(seed)
            model, first = Model(), Rights()
            for _ in range(chance.randrange(80)):
                call = random_call(chance, model)
                if call:
                    call_model(model, call)
                    getattr(first, call[0])(*call[1:])
            before, state = seen(first), first.state()
            self.assertTrue(is_plain(state))
            self.same(before, seen(first))
            kept = copy.deepcopy(state)
            second = Rights.restored(state)
            self.assertIsInstance(second, Rights)
            self.same(before, seen(second))
            for _ in range(40):
                call = random_call(chance, model)
                if call:
                    self.same(call_model(model, call), getattr(second, call[0])(*call[1:]))
                    self.same(before, seen(first))
            self.agree(model, second)
            self.same(kept, state)
            spoil(state)
            self.same(before, seen(first))
            self.agree(model, second)
            self.same(before, seen(Rights.restored(kept)))
            # The first object goes on alike, too: the next number is the same.
            if not self.full(first):
                self.same(Rights.restored(kept).root(0, "a"), first.root(0, "a"))

    def full(self, rights):
        try:
            Rights.restored(rights.state()).root(0, "a")
        except Full:
            return True
        return False


if __name__ == "__main__":
    unittest.main()
