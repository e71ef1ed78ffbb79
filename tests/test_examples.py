"""Every example of the document, as it prints them."""

import doctest
import importlib
import unittest
from pathlib import Path

from tests.test_interface import CONSTANTS, FUNCTIONS, METHODS

HERE = Path(__file__).resolve().parent
DOCUMENT = HERE.parent.parent / "shared" / "DOC.md"


def interface():
    """All names of the interface."""
    found = {}
    for module, names in [*FUNCTIONS.items(), *CONSTANTS.items()]:
        found.update((name, getattr(importlib.import_module(module), name)) for name in names)
    for path in METHODS:
        module, _, name = path.rpartition(".")
        found[name] = getattr(importlib.import_module(module), name)
    return found


class TestExamples(unittest.TestCase):
    def test_the_examples(self):
        text = (HERE / "examples.txt").read_text()
        made = doctest.DocTestParser().get_doctest(text, interface(), "examples", "examples.txt", 0)
        self.assertGreater(len(made.examples), 36)
        told = []
        doctest.DocTestRunner(verbose=False).run(made, out=told.append)
        self.assertEqual("".join(told), "")

    @unittest.skipUnless(DOCUMENT.is_file(), "the document is not here")
    def test_these_are_all(self):
        text = (HERE / "examples.txt").read_text()
        lines = [line for line in DOCUMENT.read_text().split("\n") if line.startswith(">>> ")]
        self.assertEqual([line for line in text.split("\n") if line.startswith(">>> ")], lines)


if __name__ == "__main__":
    unittest.main()
