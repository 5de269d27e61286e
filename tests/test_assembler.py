"""assemble, disassemble and reach, [21] to [23]."""

import random
import unittest

from tests.cases import WardCase
from tests.test_source import no_rows
from tests.values import no_integers_of, no_words_of
from wardwork.assembler import assemble, disassemble, reach
from wardwork.errors import BadArgument, LabelMissing, LabelTwice, TooLong
from wardwork.instructions import code_of, instruction_of
from wardwork.machine import run_alone
from wardwork.source import print_source, read_source

HALT = (None, ("halt",))
WORD = (None, ("word", 7))


def random_rows(chance, many):
    """Rows that assemble without an error."""
    names = [f"l{number}" for number in range(chance.randrange(12))]
    rows = []
    for name in names + [None] * many:
        body = chance.choice([None, ("halt",), ("word", chance.randrange(65536)), ("add", "c", "b"), ("jump", 1023)])
        if names and chance.randrange(2):
            body = chance.choice([("jump",), ("set", "a"), ("zero", "d"), ("link", "b")]) + (chance.choice(names),)
        rows.append((name, body))
    chance.shuffle(rows)
    return rows


class AssembleTest(WardCase):
    def test_samples(self):
        rows = [("go", ("set", "a", 5)), (None, ("jump", "go"))]
        self.same(([4101, 45056], [("go", 0)]), assemble(rows))
        self.same(([4101, 45056], [("go", 0)]), assemble(rows=rows))
        self.same(([], []), assemble([]))
        self.same(([], []), assemble([(None, None)]))
        self.same(([0, 65535, 0], []), assemble([(None, ("word", 0)), (None, ("word", 65535)), HALT]))

    def test_each_body_without_a_label_name(self):
        for word in range(0, 65536, 37):
            instruction = instruction_of(word)
            if instruction is not None:
                self.same(([word], []), assemble([(None, instruction)]))

    def test_labels_ahead_of_and_behind_their_definition(self):
        rows = [("one", None), (None, ("set", "c", "two")), ("two", ("zero", "d", "one")), ("end", None),
                (None, ("link", "b", "end")), (None, ("jump", "last")), ("last", None)]
        words = [code_of(("set", "c", 1)), code_of(("zero", "d", 0)), code_of(("link", "b", 2)), code_of(("jump", 4))]
        self.same((words, [("one", 0), ("two", 1), ("end", 2), ("last", 4)]), assemble(rows))

    def test_a_label_may_be_called_like_an_operation_or_a_register(self):
        rows = [HALT, ("a", ("set", "a", "a")), ("set", ("jump", "set")), ("word", ("word", 3)),
                ("b", ("jump", "word"))]
        words = [0, code_of(("set", "a", 1)), code_of(("jump", 2)), 3, code_of(("jump", 3))]
        self.same((words, [("a", 1), ("set", 2), ("word", 3), ("b", 4)]), assemble(rows))
        self.same(([code_of(("copy", "a", "b"))], []), assemble([(None, ("copy", "a", "b"))]))
        self.same(([code_of(("back", "a"))], []), assemble([(None, ("back", "a"))]))

    def test_128_bodies(self):
        rows = [HALT] * 128 + [("end", None)] + [(None, None)] * 71
        self.same(([0] * 128, [("end", 128)]), assemble(rows))
        rows = [(None, ("jump", "end"))] + [WORD] * 127 + [("end", None)]
        self.same(([45056 + 128] + [7] * 127, [("end", 128)]), assemble(rows))

    def test_rows_are_asked(self):
        self.refused(assemble, {"rows": []}, {"rows": no_rows()})
        self.raised(BadArgument, {"name": "rows"}, assemble, [HALT] * 201)
        self.raised(BadArgument, {"name": "rows"}, assemble, [("a", None), ("a", ("jump", "b")), None])

    def test_lists_are_neither_kept_nor_changed(self):
        rows = [("go", ("jump", "go")), HALT]
        first = assemble(rows)
        self.assertEqual([("go", ("jump", "go")), HALT], rows)
        first[0].clear()
        first[1].clear()
        self.same(([45056, 0], [("go", 0)]), assemble(rows))


class MistakesTest(WardCase):
    def test_label_twice(self):
        rows = [("a", None), HALT, ("b", ("halt",)), ("b", None), ("a", None)]
        self.raised(LabelTwice, {"line": 4, "label": "b"}, assemble, rows)
        self.raised(LabelTwice, {"line": 2, "label": "a"}, assemble, [("a", None), ("a", None)])
        rows = [("a", None)] + [(None, None)] * 198 + [("a", None)]
        self.raised(LabelTwice, {"line": 200, "label": "a"}, assemble, rows)

    def test_label_missing(self):
        rows = [("a", ("jump", "a")), (None, ("set", "a", "c")), ("b", ("jump", "d"))]
        self.raised(LabelMissing, {"line": 2, "label": "c"}, assemble, rows)
        for body in (("set", "a", "a"), ("jump", "a"), ("zero", "d", "a"), ("link", "b", "a")):
            self.raised(LabelMissing, {"line": 2, "label": "a"}, assemble, [HALT, (None, body)])

    def test_too_long(self):
        self.raised(TooLong, {"line": 129}, assemble, [HALT] * 129)
        self.raised(TooLong, {"line": 129}, assemble, [HALT] * 200)
        rows = [("a", None), WORD, (None, None)] + [HALT] * 127 + [(None, None), ("b", ("jump", "a")), HALT]
        self.raised(TooLong, {"line": 132}, assemble, rows)

    def test_the_class_goes_ahead_of_the_line(self):
        twice = [("a", None), ("a", None)]
        missing = [(None, ("jump", "no"))]
        long = [HALT] * 129
        self.raised(LabelTwice, {"line": 132, "label": "a"}, assemble, missing + long + twice)
        self.raised(LabelTwice, {"line": 3, "label": "a"}, assemble, missing + twice)
        self.raised(LabelTwice, {"line": 131, "label": "a"}, assemble, long + twice)
        self.raised(LabelMissing, {"line": 130, "label": "no"}, assemble, long + missing)
        self.raised(LabelMissing, {"line": 1, "label": "no"}, assemble, missing + long)


class DisassembleTest(WardCase):
    def test_samples(self):
        self.same([("go", ("set", "a", 5)), (None, ("jump", 0))], disassemble([4101, 45056], labels=[("go", 0)]))
        self.same([(None, ("halt",))], disassemble(words=[0]))
        self.same([], disassemble([]))
        self.same([(None, ("word", 1)), (None, ("word", 65535))], disassemble([1, 65535], labels=()))

    def test_several_labels_at_one_address(self):
        labels = [("x", 0), ("b", 1), ("a", 1), ("c", 1)]
        rows = [("x", ("halt",)), ("b", None), ("a", None), ("c", ("word", 9))]
        self.same(rows, disassemble([0, 9], labels=labels))
        self.same(rows, disassemble([0, 9], labels=tuple(labels)))
        self.same(([0, 9], labels), assemble(rows))

    def test_labels_behind_the_last_word(self):
        self.same([(None, ("halt",)), ("end", None)], disassemble([0], labels=[("end", 1)]))
        self.same([(None, ("halt",)), ("z", None), ("a", None)], disassemble([0], labels=[("z", 1), ("a", 1)]))
        self.same([("a", None), ("b", None)], disassemble([], labels=[("a", 0), ("b", 0)]))

    def test_a_word_that_is_a_code_comes_back_as_its_instruction(self):
        self.same([(None, ("halt",))], disassemble(assemble([(None, ("word", 0))])[0]))
        self.same([(None, ("jump", 5))], disassemble(assemble([(None, ("word", 45061))])[0]))

    def test_every_word(self):
        for start in range(0, 65536, 128):
            words = list(range(start, start + 128))
            rows = disassemble(words)
            self.assertEqual([(None, instruction_of(word) or ("word", word)) for word in words], rows)
            self.same((words, []), assemble(rows))

    def test_assemble_of_disassemble(self):
        chance = random.Random(22)
        for many in [0, 1, 2, 5, 20, 100, 115] * 12:
            told = assemble(random_rows(chance, many))
            rows = disassemble(told[0], labels=told[1])
            self.same(told, assemble(rows))
            if rows:
                self.same(rows, read_source(print_source(rows)))
        rows = [(f"l{number}", None) for number in range(72)] + [("z", ("halt",))] + [WORD] * 127
        told = assemble(rows)
        self.same(rows, disassemble(told[0], labels=told[1]))

    def test_words_are_asked(self):
        self.refused(disassemble, {"words": [], "labels": []}, {"words": no_words_of(0, 128) + [None]})
        self.same(128, len(disassemble([1] * 128)))

    def test_lists_are_neither_kept_nor_changed(self):
        words, labels = [0], [("a", 0), ("b", 0)]
        disassemble(words, labels=labels).clear()
        self.assertEqual(([0], [("a", 0), ("b", 0)]), (words, labels))


def words_of(*bodies):
    return assemble([(None, body) for body in bodies])[0]


class ReachTest(WardCase):
    def test_nothing_to_reach(self):
        self.same([], reach([]))
        self.same([], reach([], 5))
        self.same([], reach([0, 0], 2))
        self.same([], reach([0] * 128, start=1023))
        self.same([], reach([0] * 128, 128))
        self.same([127], reach([0] * 128, 127))

    def test_where_nothing_comes_behind(self):
        for word in (0, code_of(("back", "a")), 1, 65535):
            self.same([0], reach([word, word, word]))
            self.same([1], reach([word, word, word], 1))
            self.same([2], reach(words=[word, word, word], start=2))

    def test_the_one_behind(self):
        for body in (("set", "a", 0), ("copy", "a", "b"), ("load", "a", "b"), ("store", "a", "b"), ("add", "a", "b"),
                     ("sub", "a", "b"), ("mul", "a", "b"), ("div", "a", "b"), ("less", "a", "b"), ("same", "a", "b"),
                     ("trap", 0)):
            self.same([1, 2], reach(words_of(("halt",), body, ("halt",), ("halt",)), 1))
            self.same([0, 1], reach(words_of(body, body)))

    def test_jump_link_and_zero(self):
        self.same([0, 2], reach(words_of(("jump", 2), ("halt",), ("halt",))))
        self.same([0, 2], reach(words_of(("link", "a", 2), ("halt",), ("halt",))))
        self.same([0, 1, 3], reach(words_of(("zero", "a", 3), ("halt",), ("halt",), ("halt",))))
        self.same([0], reach(words_of(("jump", 0), ("halt",))))
        self.same([0, 1], reach(words_of(("jump", 1), ("jump", 0), ("halt",))))
        self.same([1, 3], reach(words_of(("halt",), ("jump", 3), ("halt",), ("jump", 1)), 1))

    def test_addresses_behind_the_words_are_left_out(self):
        self.same([0], reach(words_of(("jump", 2), ("halt",))))
        self.same([0], reach(words_of(("jump", 1023), ("halt",))))
        self.same([0, 1], reach(words_of(("zero", "a", 2), ("link", "b", 500))))

    def test_arguments_are_asked(self):
        wrong = {"words": no_words_of(0, 128) + [None], "start": no_integers_of(0, 1023)}
        self.refused(reach, {"words": [], "start": 0}, wrong)
        words = [45056]
        reach(words).clear()
        self.assertEqual(([0], [45056]), (reach(words), words))

    def test_a_run_stays_within_reach(self):
        chance = random.Random(23)
        names = [("set", "a", 3), ("set", "b", 9), ("trap", 2), ("copy", "c", "a"), ("load", "d", "a"),
                 ("div", "a", "b")]
        for _ in range(300):
            many = chance.choice([3, 8, 20])
            jumps = [("jump",), ("zero", "a"), ("zero", "c"), ("link", "b")]
            bodies = [chance.choice(names + [jump + (chance.randrange(many + 2),) for jump in jumps])
                      for _ in range(many)]
            words = words_of(*bodies)
            start = chance.randrange(many)
            within = reach(words, start)
            contents = words + [0] * (24 - many)
            for limit in range(40):
                answers = [(chance.randrange(2), 5)] * 40
                core = run_alone((start, 0, 0, 0, 0), contents, answers, limit=limit)[2]
                self.assertTrue(core[0] in within or core[0] >= many, (words, core))


if __name__ == "__main__":
    unittest.main()
