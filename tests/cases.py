"""A TestCase that asks for the errors of the program."""

import unittest

from tests.values import wrong_calls
from wardwork.errors import BadArgument


class WardCase(unittest.TestCase):
    def raised(self, error, attributes, call, *told, **named):
        """Asks that the call raises this very class with these attributes."""
        with self.assertRaises(error) as caught:
            call(*told, **named)
        self.assertIs(error, caught.exception.__class__)
        for name, value in attributes.items():
            self.same(value, getattr(caught.exception, name))

    def same(self, right, told):
        """Asks for a value that is equal in kind, too: 1 is not True."""
        self.assertEqual(right, told)
        self.assertEqual(repr(right), repr(told))

    def refused(self, call, right, wrong, seen=lambda: None):
        """Asks that each wrong argument raises BadArgument with its name and changes nothing."""
        before = seen()
        for name, arguments in wrong_calls(right, wrong):
            with self.subTest(arguments=arguments):
                self.raised(BadArgument, {"name": name}, call, **arguments)
                self.assertEqual(before, seen())
