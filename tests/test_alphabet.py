"""[13] The alphabet."""

import unittest

from deedstand.alphabet import ALPHABET, check_text, code_of, is_name, is_text, kind_of, sign_of
from deedstand.errors import BadText, TooMuch
from tests.ways import ANY_VALUES


class TestAlphabet(unittest.TestCase):

    def test_example(self):
        self.assertEqual((len(ALPHABET), ALPHABET[:4], code_of("a"), sign_of(6)), (95, '\n !"', 65, "&"))
        with self.assertRaises(BadText) as caught:
            check_text("ab\tc", 2)
        self.assertEqual(caught.exception.at, 2)

    def test_signs_and_codes(self):
        signs = "\n" + "".join(chr(code) for code in range(32, 127) if code != 37)
        self.assertEqual(ALPHABET, signs)
        self.assertEqual([sign_of(code) for code in range(95)], list(signs))
        self.assertEqual([code_of(sign) for sign in signs], list(range(95)))
        self.assertEqual(sign_of(code=1), " ")
        self.assertEqual(code_of(sign="~"), 94)

    def test_is_text(self):
        self.assertIs(is_text(""), True)
        self.assertIs(is_text(ALPHABET), True)
        for code in range(300):
            self.assertIs(is_text("a" + chr(code)), chr(code) in ALPHABET)
        for thing in ANY_VALUES:
            self.assertIs(is_text(thing), isinstance(thing, str) and thing in ("", "a", "ab"), thing)
        self.assertIs(is_text(thing="\ud800"), False)

    def test_is_name(self):
        for name in ("a", "z9", "a12345678901", "abcdefghijkl"):
            self.assertIs(is_name(name), True)
        for name in ("", "9", "A", "aB", "a_", "a-", "a b", "a\n", "abcdefghijklm", "\u00e4", "a\u0661", "_a", "%"):
            self.assertIs(is_name(name), False, name)
        for thing in ANY_VALUES:
            self.assertIs(is_name(thing), isinstance(thing, str) and thing in ("a", "ab"), thing)
        self.assertIs(is_name(thing=("a",)), False)

    def test_check_text(self):
        self.assertIsNone(check_text("", 0))
        self.assertIsNone(check_text(thing="ab", most=2))
        with self.assertRaises(TooMuch) as caught:
            check_text("abc", 2)
        self.assertEqual(caught.exception.what, "text")
        for text, at in (("%", 0), ("ab%\t", 2), ("abc\u00e4", 3), ("\ud800", 0), ("a\r\n", 1)):
            with self.assertRaises(BadText) as caught:
                check_text(text, 0)
            self.assertEqual(caught.exception.at, at)
        for thing in ANY_VALUES:
            if not isinstance(thing, str):
                with self.assertRaises(BadText) as caught:
                    check_text(thing, 0)
                self.assertEqual(caught.exception.at, -1)

    def test_check_text_at_its_longest(self):
        self.assertIsNone(check_text("x" * 4000, 4000))
        with self.assertRaises(TooMuch):
            check_text("x" * 4001, 4000)

    def test_kind_of(self):
        kinds = {"\n": "feed", " ": "blank", "_": "letter"}
        for sign in ALPHABET:
            kind = "digit" if sign.isdigit() else "letter" if sign.isalpha() else "other"
            self.assertEqual(kind_of(sign), kinds.get(sign, kind))


if __name__ == "__main__":
    unittest.main()
