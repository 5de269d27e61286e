"""The classes of [4]."""

import unittest

from tests.cases import WardCase
from wardwork import errors

# Each class with the class directly above it and its attributes, in the order of the table.
TABLE = [
    ("WardError", "ValueError", []),
    ("SourceError", "WardError", ["line"]),
    ("BadArgument", "WardError", ["name"]),
    ("BadText", "SourceError", ["line", "column"]),
    ("LabelTwice", "SourceError", ["line", "label"]),
    ("LabelMissing", "SourceError", ["line", "label"]),
    ("TooLong", "SourceError", ["line"]),
    ("Unknown", "WardError", ["what"]),
    ("Taken", "WardError", ["what"]),
    ("NotAllowed", "WardError", ["what"]),
    ("WrongState", "WardError", ["what"]),
    ("RingOfWaits", "WardError", ["ring"]),
    ("Full", "WardError", ["what"]),
    ("Stopped", "WardError", ["done"]),
]
SAMPLES = {
    "name": ["pages", ""],
    "label": ["go", "a1"],
    "line": [1, 200],
    "column": [1, 4001],
    "what": [0, 7, "frame", ""],
    "ring": [[], [3, 1]],
    "done": [0, 9999],
}


def samples(names):
    """Lists of attributes: the first samples of all, and every other sample in its place."""
    yield [SAMPLES[name][0] for name in names]
    for at, name in enumerate(names):
        for value in SAMPLES[name][1:]:
            yield [value if k == at else SAMPLES[other][0] for k, other in enumerate(names)]


class ErrorsTest(WardCase):
    def test_each_class_is_directly_below_the_told_one(self):
        for name, above, _ in TABLE:
            bases = [base.__name__ for base in getattr(errors, name).__bases__]
            self.assertEqual([above], bases, name)

    def test_attributes_by_position_and_by_name(self):
        for name, _, names in TABLE:
            made = getattr(errors, name)
            for values in samples(names):
                by_name = dict(zip(names, values))
                for error in (made(*values), made(**by_name)):
                    told = {attribute: getattr(error, attribute) for attribute in names}
                    self.same(by_name, told)
                    self.assertIsInstance(str(error), str)

    def test_they_are_raised_and_caught(self):
        for name, _, names in TABLE:
            made = getattr(errors, name)
            values = [SAMPLES[attribute][0] for attribute in names]
            with self.assertRaises(errors.WardError):
                raise made(*values)

    def test_each_has_just_its_attributes(self):
        for name, _, names in TABLE:
            made = getattr(errors, name)
            error = made(*[SAMPLES[attribute][0] for attribute in names])
            self.assertEqual(sorted(names), sorted(vars(error)), name)

    def test_ring_is_one_copy(self):
        ring = [4, 2]
        error = errors.RingOfWaits(ring)
        ring.append(9)
        self.assertEqual([4, 2], error.ring)
        self.assertIs(error.ring, error.ring)
        self.assertFalse(any(part is ring for part in error.args))


if __name__ == "__main__":
    unittest.main()
