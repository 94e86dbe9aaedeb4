"""The examples of the document, as they stand there: tests/examples_*.txt, one file for each stage of the work."""

import importlib
import pathlib
import unittest

from tests.ways import AB, AB_CUTS

TESTS = pathlib.Path(__file__).resolve().parent
PACKAGE = TESTS.parent / "deedstand"


def whole_package():
    """All public names of all files, as the examples leave out imports."""
    names = {"AB": AB, "AB_CUTS": AB_CUTS}
    for path in sorted(PACKAGE.glob("*.py")):
        if path.stem != "__init__":
            names.update(vars(importlib.import_module("deedstand." + path.stem)))
    return names


def examples_of(text):
    """Pairs of a statement and the line that it shows, "" if it shows none."""
    found = []
    for line in text.splitlines():
        if line.startswith(">>> "):
            found.append([line[4:], ""])
        else:
            found[-1][1] += line
    return found


class TestExamples(unittest.TestCase):

    def test_examples(self):
        names = whole_package()
        tried = 0
        for path in sorted(TESTS.glob("examples_*.txt")):
            for statement, shown in examples_of(path.read_text(encoding="utf-8")):
                with self.subTest(statement):
                    tried += self.check(names, statement, shown)
        self.assertGreater(tried, 15)

    def check(self, names, statement, shown):
        if not shown:
            exec(statement, names)
            return 0
        if shown.startswith("raises "):
            want = eval(shown[7:], names)
            with self.assertRaises(type(want)) as caught:
                eval(statement, names)
            self.assertEqual(vars(caught.exception), vars(want))
        else:
            self.assertEqual(repr(eval(statement, names)), shown)
        return 1


if __name__ == "__main__":
    unittest.main()
