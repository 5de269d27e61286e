"""The examples of README.md."""

import builtins
import doctest
import pathlib
import unittest

README = pathlib.Path(__file__).resolve().parent.parent / "README.md"


class ReadmeTest(unittest.TestCase):
    def test_the_examples(self):
        # An example that prints a value leaves it there.
        self.addCleanup(lambda: vars(builtins).pop("_", None))
        # The fences are no part of what an example prints.
        text = README.read_text("utf-8").replace("```", "")
        examples = doctest.DocTestParser().get_doctest(text, {}, "README.md", None, None)
        told = []
        doctest.DocTestRunner(optionflags=doctest.IGNORE_EXCEPTION_DETAIL).run(examples, out=told.append)
        self.assertEqual("", "".join(told))
        self.assertGreater(len(examples.examples), 40)


if __name__ == "__main__":
    unittest.main()
