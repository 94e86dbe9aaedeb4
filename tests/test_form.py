"""The form of the code: the rules of the language that a small script can see."""

import pathlib
import unittest

from tests import form

FOLDER = pathlib.Path(__file__).resolve().parent.parent / form.PACKAGE

WRONG = (
    ("L10", "# " + "x" * 120 + "\n"),
    ("L10", "def f():\n" + "    pass\n" * 40),
    ("L10", "\n" * 400),
    ("L14", "# \u00e4\n"),
    ("L14", "def f():\n\treturn 1\n"),
    ("L27", "X = \"50%\"\n"),
    ("L27", "X = \"\\x41\"\n"),
    ("L2", "import sys\n"),
    ("L2", "from os import path\n"),
    ("L2", "from deedstand.none import path\n"),
    ("L16", "from deedstand.errors import gone\n"),
    ("L16", "from deedstand.errors import BadText\n"),
    ("L3", "print(1)\n"),
    ("L3", "X = len(\"a\")\n"),
    ("L15", "X = 1\nX = 2\n"),
    ("L15", "def f(id):\n    return id\n"),
    ("L15", "def f():\n    round = 1\n    return round\n"),
    ("L8", "def f(x):\n    return float(x)\n"),
    ("L7", "def f(x):\n    return x / 2\n"),
    ("L7", "def f(x):\n    return x * 2.5\n"),
    ("L17", "def f(x):\n    return \"type\"\n"),
    ("L12 or L17", "def f(x):\n    return x.mro\n"),
    ("L12 or L17", "def f(__x):\n    return __x\n"),
    ("L20", "def f(x, y):\n    return x is y\n"),
    ("L21", "def f(x: int):\n    return x\n"),
    ("L25", "def f(x):\n    return x.encode()\n"),
    ("L24", "def f(x):\n    return {1, 2}\n"),
    ("L19", "def f(x):\n    raise x\n"),
    ("L4", "def g(x):\n    return x\n\n\n@g\ndef f(x):\n    return x\n"),
    ("L23", "def f():\n    yield 1\n\n\nclass A:\n    def f(self):\n        return 1\n"),
    ("L18", "class A:\n    def f(self):\n        self.f = 1\n"),
    ("L18", "class A:\n    def f(self):\n        return 1\n\n\nclass B(A):\n    def g(self):\n        self.f = 1\n"),
    ("L16", "from deedstand.late import g\n\n\ndef f():\n    return g()\n"),
)


class TestForm(unittest.TestCase):

    def test_package(self):
        self.assertEqual(form.complaints(package_texts()), [])

    def test_folder(self):
        for path in FOLDER.iterdir():
            if path.name != "__pycache__":
                self.assertEqual(path.suffix, ".py", path)

    def test_wrong_code_is_seen(self):
        late = "from deedstand.wrong import f\n\n\ndef g():\n    return f()\n"
        for rule, text in WRONG:
            texts = {"errors": "class BadText(ValueError):\n    pass\n", "wrong": text}
            if "late" in text:
                texts["late"] = late
            found = form.complaints(texts)
            self.assertTrue(any(rule in complaint for complaint in found), (rule, text, found))


def package_texts():
    return {path.stem: path.read_text(encoding="utf-8") for path in sorted(FOLDER.glob("*.py"))}


if __name__ == "__main__":
    unittest.main()
