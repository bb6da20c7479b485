"""The examples in README.md return what they show."""

import doctest
import unittest
from pathlib import Path

README = Path(__file__).resolve().parent.parent / "README.md"


class Readme(unittest.TestCase):
    def test_examples(self):
        text = README.read_text().replace("```", "")
        examples = doctest.DocTestParser().get_doctest(text, {}, "README", str(README), 0)
        self.assertGreater(len(examples.examples), 10)
        self.assertEqual(doctest.DocTestRunner().run(examples).failed, 0)
