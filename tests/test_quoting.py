"""[15] Quoted texts, numbers, names and words."""

import itertools
import unittest

from deedstand.alphabet import ALPHABET
from deedstand.errors import BadLine
from deedstand.linewords import words_of
from deedstand.quoting import name_at, number_at, quote, unquote
from tests.ways import rng_for


class TestReaders(unittest.TestCase):

    def refused(self, call, line, at, wrong):
        with self.assertRaises(BadLine, msg=(line, at)) as caught:
            call(line, at)
        self.assertEqual(caught.exception.at, wrong, (line, at))

    def test_examples(self):
        self.assertEqual((quote('a"\\\n'), unquote('x "a\\n" y', 2)), ('"a\\"\\\\\\n"', ("a\n", 7)))
        self.refused(unquote, '"\\a"', 0, 2)
        got = (number_at("x012", 1), number_at("1234567890", 0), name_at("ab1-", 0))
        self.assertEqual(got, ((0, 2), (123456789, 9), ("ab1", 3)))

    def test_quote_and_back(self):
        for many in range(5):
            for signs in itertools.product('a"\\\nn', repeat=many):
                text = "".join(signs)
                line = quote(text)
                self.assertNotIn("\n", line)
                self.assertEqual(unquote(line, 0), (text, len(line)))
                self.assertEqual(unquote("q" + line + '"', 1), (text, len(line) + 1))
        self.assertEqual(unquote(quote(ALPHABET), 0)[0], ALPHABET)
        self.assertEqual(quote(text=""), '""')

    def test_unquote_refuses(self):
        for line, at, wrong in (
            ("", 0, 0), ("a", 0, 0), ("a", 1, 1), ('"', 0, 1), ('"ab', 0, 3), ('"a\nb"', 0, 2), ('"\\', 0, 2),
            ('"\\\n"', 0, 2), ('"\\N"', 0, 2), ('"\\"', 0, 3), ('x""', 0, 0), ('x"" ', 3, 3), ('x""', 3, 3),
            ("\\n", 0, 0), ("\n", 0, 0), ('"a\\ "', 0, 3),
        ):
            self.refused(unquote, line, at, wrong)

    def test_unquote_looks_no_further(self):
        self.assertEqual(unquote(line='""\n', at=0), ("", 2))
        self.assertEqual(unquote('"a""b"', 0), ("a", 3))
        self.assertEqual(unquote('"a""b"', 3), ("b", 6))

    def test_numbers(self):
        for line, at, number, end in (
            ("0", 0, 0, 1), ("00", 0, 0, 1), ("00", 1, 0, 2), ("7", 0, 7, 1), ("10a", 0, 10, 2), ("a10", 2, 0, 3),
            ("999999999", 0, 999999999, 9), ("9999999999", 0, 999999999, 9), ("x123456789012", 1, 123456789, 10),
            ("12 3", 0, 12, 2), ("100000000", 0, 100000000, 9),
        ):
            self.assertEqual(number_at(line, at), (number, end))
        self.assertEqual(number_at(line="5", at=0), (5, 1))
        for line, at, wrong in (("", 0, 0), ("a", 0, 0), ("5", 1, 1), (" 5", 0, 0), ("-5", 0, 0), ("\n", 0, 0)):
            self.refused(number_at, line, at, wrong)

    def test_names(self):
        for line, at, name, end in (
            ("a", 0, "a", 1), ("a1b2", 0, "a1b2", 4), ("xab", 1, "ab", 3), ("aB", 0, "a", 1), ("a_", 0, "a", 1),
            ("abcdefghijkl", 0, "abcdefghijkl", 12), ("abcdefghijkl-", 0, "abcdefghijkl", 12), ("a b", 0, "a", 1),
            ("abcdefghijklm", 1, "bcdefghijklm", 13),
        ):
            self.assertEqual(name_at(line, at), (name, end))
        self.assertEqual(name_at(line="b", at=0), ("b", 1))
        for line, at, wrong in (
            ("", 0, 0), ("1a", 0, 0), ("A", 0, 0), ("_", 0, 0), ("a", 1, 1), ("abcdefghijklm", 0, 12),
            ("-a12345678901234567", 1, 13), ("\n", 0, 0), ("abcdefghijkl0", 0, 12),
        ):
            self.refused(name_at, line, at, wrong)


def told_words(line):
    """The words of a line, read word by word by the readers; the errors are looked for first."""
    words = []
    at = 0
    while line:
        if at == len(line) or line[at] in " \n":
            raise BadLine(at)
        if line[at] in "abcdefghijklmnopqrstuvwxyz":
            kind, (worth, end) = "name", name_at(line, at)
        elif line[at] in "0123456789":
            kind, (worth, end) = "number", number_at(line, at)
        elif line[at] == '"':
            kind, (worth, end) = "text", unquote(line, at)
        else:
            kind, worth, end = "sign", line[at], at + 1
        words.append((kind, worth))
        if end == len(line):
            break
        if line[end] != " ":
            raise BadLine(end)
        at = end + 1
    return tuple(words)


class TestWords(unittest.TestCase):

    def refused(self, line, wrong):
        with self.assertRaises(BadLine, msg=line) as caught:
            words_of(line)
        self.assertEqual(caught.exception.at, wrong, line)

    def test_examples(self):
        words = (("name", "go"), ("name", "a1"), ("sign", ","), ("number", 20), ("text", "b c"))
        self.assertEqual(words_of('go a1 , 20 "b c"'), words)
        self.refused("012", 1)
        self.refused("a ", 2)

    def test_no_word(self):
        self.assertEqual(words_of(""), ())
        self.assertEqual(words_of(line="x"), (("name", "x"),))

    def test_refused(self):
        for line, wrong in (
            (" ", 0), ("\n", 0), (" a", 0), ("a  b", 2), ("a\nb", 1), ("a \n", 2), ("1234567890", 9), ("aB", 1),
            ("Ab", 1), ("ab1-", 3), ('""a', 2), ('a"b"', 1), ('"a', 2), ('x "\\q"', 4), ("abcdefghijklm", 12),
            ("a abcdefghijklm", 14), ("1a", 1), ("a1 00", 4), (",,", 1), ("- ", 2), ('"a" "\n"', 5), ("_a", 1),
        ):
            self.refused(line, wrong)

    def test_signs_alone(self):
        for sign in ALPHABET:
            if sign not in '\n "abcdefghijklmnopqrstuvwxyz0123456789':
                self.assertEqual(words_of(sign + " " + sign), (("sign", sign), ("sign", sign)))

    def test_written_and_read(self):
        rng = rng_for("words")
        for _ in range(500):
            words, line = [], []
            for _ in range(rng.randint(1, 6)):
                kind = rng.choice(("name", "sign", "number", "text"))
                if kind == "name":
                    worth = rng.choice("abz") + "".join(rng.choice("az09") for _ in range(rng.randint(0, 11)))
                elif kind == "sign":
                    worth = rng.choice("AZ_,/{}-#\\'")
                elif kind == "number":
                    worth = rng.choice((0, 1, 9, 10, 999999999, rng.randrange(10 ** 9)))
                else:
                    worth = "".join(rng.choice(ALPHABET) for _ in range(rng.randint(0, 5)))
                words.append((kind, worth))
                line.append(quote(worth) if kind == "text" else str(worth))
            self.assertEqual(words_of(" ".join(line)), tuple(words))

    def test_all_short_lines(self):
        for many in range(5):
            for signs in itertools.product('a0 1"\\n\nA', repeat=many):
                line = "".join(signs)
                try:
                    expected = told_words(line)
                except BadLine as error:
                    self.refused(line, error.at)
                else:
                    self.assertEqual(words_of(line), expected)

    def test_longest(self):
        self.assertEqual(len(words_of(" ".join(["a"] * 2000))), 2000)
        self.assertEqual(words_of(quote("\n" * 1999)), (("text", "\n" * 1999),))


if __name__ == "__main__":
    unittest.main()
