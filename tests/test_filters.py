"""Filter and filter_all, [76], and run_pipeline, [77]."""

import copy
import random
import unittest

from tests.cases import WardCase
from tests.values import NO_INTEGERS, NO_WORDS, no_integers_of, no_words_of
from wardwork.errors import BadArgument, Unknown, WardError, WrongState
from wardwork.filters import Filter, filter_all, run_pipeline

PLAIN = ["pass", "once", "sum", "count", "sort", "flip"]
NUMBERED = ["add", "below", "first", "last"]
NO_NUMBER_TEXTS = [True, False, None, 0, 1, 65535, "", "00", "01", "007", "65536", "99999", "100000", "000001", "-1", "+1",
                   "a", "1a", " 1", "1 ", "1.0", "1_0", ["1"], ("1",), [], "0x1", "1,2", "9" * 4000]
NO_TURNS = [True, False, None, 0, 1, "", "01", "0", [True], [False], [None], ["0"], [[0]], [(0,)], [-1], (True,), ([0],),
            ("0",), [0] * 301, (0,) * 301, [0, -1], [0, 10 ** 12 - 1]]


def right_words(name, terms, words):
    """What the table of [76] tells, for all words at once."""
    n = int(terms[0]) if terms else None
    if name == "pass":
        return list(words)
    if name == "add":
        return [(word + n) % 65536 for word in words]
    if name == "below":
        return [word for word in words if word < n]
    if name == "first":
        return words[:n]
    if name == "last":
        return words[-n:] if n else []
    if name == "once":
        return [word for at, word in enumerate(words) if at == 0 or word != words[at - 1]]
    if name == "sum":
        return [sum(words) % 65536]
    if name == "count":
        return [len(words) % 65536]
    if name == "sort":
        return sorted(words)
    if name == "flip":
        return list(reversed(words))
    return [int(term) for term in terms]


def random_command(chance):
    name = chance.choice(PLAIN + NUMBERED + ["emit"])
    many = chance.randrange(1, 9) if name == "emit" else 1 if name in NUMBERED else 0
    return (name, [str(chance.choice([0, 1, 2, 3, 5, 40, 65535, chance.randrange(65536)])) for _ in range(many)])


def random_words(chance, most):
    return [chance.choice([0, 1, 2, 3, 65535, chance.randrange(65536)]) for _ in range(chance.choice([0, 1, 2, 5, most]))]


class FilterTest(WardCase):
    def test_each_filter_with_no_word_one_and_many(self):
        self.same([[], [], [0], [0], [], []], [filter_all(name, [], []) for name in PLAIN])
        self.same([[7], [7], [7], [1], [7], [7]], [filter_all(name, [], [7]) for name in PLAIN])
        many = [5, 5, 65535, 1, 5]
        self.same([many, [5, 65535, 1, 5], [15], [5], [1, 5, 5, 5, 65535], [5, 1, 65535, 5, 5]],
                  [filter_all(name, [], many) for name in PLAIN])
        for name in NUMBERED:
            self.same([], filter_all(name, ["3"], []))
        self.same([10, 65535, 2], filter_all("add", ["3"], [7, 65532, 65535]))
        self.same([7, 65535], filter_all("add", ["0"], [7, 65535]))
        self.same([6, 65534], filter_all("add", ["65535"], [7, 65535]))
        self.same([2, 0], filter_all("below", ["3"], [7, 2, 3, 0, 4]))
        self.same([], filter_all("below", ["0"], [0, 1]))
        self.same([65534], filter_all("below", ["65535"], [65535, 65534]))
        self.same([7, 8], filter_all("first", ["2"], [7, 8, 9]))
        self.same([[], [7, 8, 9]], [filter_all("first", [n], [7, 8, 9]) for n in ("0", "65535")])
        self.same([8, 9], filter_all("last", ["2"], [7, 8, 9]))
        self.same([[], [9], [7, 8, 9], [7, 8, 9]], [filter_all("last", [n], [7, 8, 9]) for n in ("0", "1", "3", "65535")])
        self.same([1, 2, 1], filter_all("once", [], [1, 1, 2, 2, 1]))
        self.same([0], filter_all("once", [], [0, 0]))
        self.same([1], filter_all("sum", [], [65535, 2]))
        self.same([3, 0, 65535], filter_all("emit", ["3", "0", "65535"], [9, 9]))
        self.same([1], filter_all(name="emit", terms=["1"], words=[]))

    def test_what_comes_out_at_once_and_at_the_end(self):
        for name, terms, fed, end in (
                ("pass", [], [[7], [7], [3]], []), ("add", ["1"], [[8], [8], [4]], []),
                ("below", ["5"], [[], [], [3]], []), ("first", ["2"], [[7], [7], []], []),
                ("last", ["2"], [[], [], []], [7, 3]), ("once", [], [[7], [], [3]], []),
                ("sum", [], [[], [], []], [17]), ("count", [], [[], [], []], [3]), ("sort", [], [[], [], []], [3, 7, 7]),
                ("flip", [], [[], [], []], [3, 7, 7]), ("emit", ["5", "5"], [[], [], []], [5, 5])):
            one = Filter(name=name, terms=terms)
            self.same(fed, [one.feed(word=7), one.feed(7), one.feed(3)])
            self.same(end, one.finish())

    def test_behind_finish(self):
        for name in PLAIN + NUMBERED + ["emit"]:
            one = Filter(name, [] if name in PLAIN else ["1"])
            one.feed(5)
            one.finish()
            for _ in range(2):
                self.raised(WrongState, {"what": "filter"}, one.feed, 1)
                self.raised(WrongState, {"what": "filter"}, one.finish)
            self.refused(one.feed, {"word": 1}, {"word": NO_WORDS})

    def test_many_words(self):
        one, other = Filter("count", []), Filter("sum", [])
        for _ in range(65537):
            one.feed(0)
            other.feed(2)
        self.same(([1], [2]), (one.finish(), other.finish()))
        one = Filter("last", ["3"])
        for word in range(1000):
            one.feed(word)
        self.same([997, 998, 999], one.finish())

    def test_two_filters_are_two(self):
        one, other = Filter("flip", []), Filter("flip", [])
        one.feed(1)
        other.feed(2)
        self.same(([1], [2]), (one.finish(), other.finish()))

    def test_unknown_names(self):
        for name in ("", "a", "Pass", "pass ", " pass", "sums", "emit0", "0", "first2", "/pass"):
            for terms in ([], ["1"], None, 5, [0]):
                self.raised(Unknown, {"what": name}, Filter, name, terms)
                for words in ([], [1], [0] * 200):
                    self.raised(Unknown, {"what": name}, filter_all, name, terms, words)

    def test_wrong_terms(self):
        for name in PLAIN + NUMBERED + ["emit"]:
            right = [] if name in PLAIN else ["1"]
            wrong = [x for x in NO_INTEGERS if x != []] + [tuple(right), (), right + [None], [right]]
            wrong.extend([[part] for part in NO_NUMBER_TEXTS])
            if name in PLAIN:
                wrong.extend([["0"], ["1"], ["1", "2"], [""]])
            else:
                wrong.extend([[], ["1"] * 9, ["1"] * 8 + [""]])
                wrong.extend([["1", part] for part in NO_NUMBER_TEXTS])
            if name in NUMBERED:
                wrong.extend([["1", "2"], ["1", "1"], ["1"] * 8])
            for terms in wrong:
                with self.subTest(name=name, terms=terms):
                    self.raised(BadArgument, {"name": "terms"}, Filter, name, terms)
                    self.raised(BadArgument, {"name": "terms"}, filter_all, name, terms, [1])
                    self.raised(BadArgument, {"name": "terms"}, filter_all, name, terms, None)

    def test_number_texts(self):
        for number in (0, 1, 9, 10, 99999 - 34464, 65535, 10000):
            self.same([number], filter_all("emit", [str(number)], []))
        self.same(list(range(8)), filter_all("emit", [str(k) for k in range(8)], []))

    def test_words_are_asked(self):
        for one in (Filter("pass", []), Filter("sum", [])):
            self.refused(one.feed, {"word": 1}, {"word": NO_WORDS})
        self.same([0] * 200, filter_all("pass", [], [0] * 200))
        wrong = no_words_of(0, 200)
        self.refused(filter_all, {"name": "pass", "terms": [], "words": []}, {"words": wrong})
        # A wrong list of words goes ahead of Unknown, and behind wrong terms.
        for words in wrong:
            self.raised(BadArgument, {"name": "words"}, filter_all, "nil", [], words)
            self.raised(BadArgument, {"name": "words"}, filter_all, "nil", None, words)
            self.raised(BadArgument, {"name": "terms"}, filter_all, "pass", ["1"], words)

    def test_random_words_against_the_table(self):
        for seed in range(400):
            chance = random.Random(seed)
            name, terms = random_command(chance)
            words = random_words(chance, 200)
            kept = (list(terms), list(words))
            self.same(right_words(name, terms, words), filter_all(name, terms, words))
            self.same(kept, (terms, words))

    def test_lists_are_neither_kept_nor_handed_out(self):
        terms = ["1", "2"]
        one = Filter("emit", terms)
        terms.clear()
        self.same([1, 2], one.finish())
        one = Filter("pass", [])
        one.feed(1).append(9)
        self.same([2], one.feed(2))


class PipelineTest(WardCase):
    def test_sections(self):
        self.same([1, 2, 3], run_pipeline([("sort", [])], [3, 1, 2]))
        self.same([2, 1], run_pipeline(commands=[("first", ["2"]), ("flip", [])], words=[1, 2, 3], room=1, turns=[0]))
        self.same([6], run_pipeline([("pass", [])] * 7 + [("sum", [])], [1, 2, 3]))
        self.same([], run_pipeline([("pass", [])], []))
        self.same([5], run_pipeline([("flip", []), ("emit", ["5"])], []))
        self.same([0] * 64, run_pipeline([("pass", [])] * 8, [0] * 64))

    def test_the_result_does_not_depend_on_room_and_turns(self):
        for seed in range(150):
            chance = random.Random(seed)
            commands = [random_command(chance) for _ in range(chance.choice([1, 2, 3, 8]))]
            words = random_words(chance, 64)
            right = list(words)
            for name, terms in commands:
                right = filter_all(name, terms, right)
            kept = copy.deepcopy((commands, words))
            for room in (1, 2, 4, 16):
                many = chance.choice([0, 1, 10, 300])
                turns = [chance.randrange(len(commands)) for _ in range(many)]
                self.same(right, run_pipeline(commands, words, room=room, turns=chance.choice([turns, tuple(turns)])))
            for section in range(len(commands)):
                self.same(right, run_pipeline(commands, words, turns=[section] * 300))
            self.same(right, run_pipeline(commands, words, turns=list(range(len(commands)))[::-1] * 30))
            self.same(kept, (commands, words))

    def test_arguments_are_asked(self):
        good = ("add", ["1"])
        commands = [x for x in NO_INTEGERS] + [good, (good,), [list(good)], [good] * 9, [good, ("add",)], [("add", ["1"], 0)],
                                               [good, None], [()], [("add", ("1",))], [("add", None)], [("add", "1")]]
        for text in (True, None, 0, ["a"], ("a",), []):
            commands.extend([[(text, [])], [good, (text, [])], [("add", [text])], [("emit", ["1", text])],
                             [("nil", [text])]])
        turns = NO_TURNS + [[2], (2,), [0, 1, 2]]
        wrong = {"commands": commands, "words": no_words_of(0, 64), "room": no_integers_of(1, 16), "turns": turns}
        right = {"commands": [good, good], "words": [1], "room": 1, "turns": [0, 1]}
        self.refused(run_pipeline, right, wrong)
        # They go ahead of what Filter raises.
        right = {"commands": [("add", []), ("nil", [])], "words": [1], "room": 1, "turns": [0, 1]}
        self.refused(run_pipeline, right, wrong)
        self.same([2], run_pipeline([("add", ["1"])], [1], turns=[0] * 300))

    def test_the_first_wrong_command_decides(self):
        good, terms, name = ("pass", []), ("pass", ["1"]), ("nil", [])
        for commands, error in (([terms], "terms"), ([name], "nil"), ([terms, name], "terms"), ([name, terms], "nil"),
                                ([good, name, terms, ("other", [])], "nil"), ([good, good, terms, name], "terms"),
                                ([good, ("other", []), name], "other"), ([good] * 7 + [name], "nil")):
            with self.assertRaises(WardError) as caught:
                run_pipeline(commands, [1])
            if error == "terms":
                self.assertIs(BadArgument, caught.exception.__class__)
                self.same("terms", caught.exception.name)
            else:
                self.assertIs(Unknown, caught.exception.__class__)
                self.same(error, caught.exception.what)


if __name__ == "__main__":
    unittest.main()
