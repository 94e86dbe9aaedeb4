"""[65] fronts, depths, the round that indents, [66]."""

import unittest

from deedstand.bookreading import read_book
from deedstand.depths import closes, depth_of, front_of
from deedstand.errors import BadPlace
from deedstand.indenting import feed_front, indent_round
from deedstand.lexing import lexed
from deedstand.plaintints import tints_from_nothing
from deedstand.splicing import check_round, spliced
from deedstand.textlines import rows_of
from tests.test_books import CODE_ROWS
from tests.test_sheets import refused
from tests.test_tints import longest_book
from tests.ways import rng_for

CODE = read_book(CODE_ROWS)
# Quoted signs have a colour, also brackets; a row that leaves a quote open begins the next one in mode q.
QUOTES = read_book(("mode c", "rule 1 q \"'\"", 'rule 2 c "[)]{2}"', "mode q", "rule 1 c \"'\"", "rule 1 q \"[^']\""))


def colours_of(book, mode, row):
    if book is None:
        return [0] * len(row)
    return [colour for many, colour in lexed(book, mode, row)[0] for _ in range(many)]


def plain_depth(book, mode, row):
    depth = 0
    for sign, colour in zip(row, colours_of(book, mode, row)):
        if colour == 0 and sign in "([{":
            depth += 1
        if colour == 0 and sign in ")]}":
            depth = max(depth - 1, 0)
    return depth


def plain_closes(book, mode, row):
    return row[:1] in (")", "]", "}") and colours_of(book, mode, row)[0] == 0


def plain_indented(book, text, first, last):
    """The text that [65] asks for, row by row from the top."""
    rows = text.split("\n")
    bare = [row.lstrip(" ") for row in rows]
    if book is None:
        mode, modes = "any", ["any"] * len(rows)
    else:
        modes = [mode for mode, _ in tints_from_nothing(book, bare)]
        mode = book_mode = modes[0]
        assert book_mode == "c" or book_mode == "code"
    counted = [line for line in range(len(rows)) if bare[line] and modes[line] == mode]
    for line in counted:
        if not first <= line <= last:
            continue
        above = [upper for upper in counted if upper < line]
        front = 0
        if above:
            front = len(rows[above[-1]]) - len(bare[above[-1]]) + 2 * plain_depth(book, mode, bare[above[-1]])
            front -= 2 * plain_closes(book, mode, bare[line])
        rows[line] = " " * min(max(front, 0), 60) + bare[line]
    return "\n".join(rows)


class TestDepths(unittest.TestCase):

    def test_front(self):
        for row, front in (("", 0), (" ", 1), ("a", 0), ("  a b ", 2), (" " * 4000, 4000), ("   (", 3), ("_ ", 0)):
            self.assertEqual(front_of(row), front)
        self.assertEqual(front_of(row=" x"), 1)

    def test_depth(self):
        for row, depth in (("", 0), ("a", 0), ("(", 1), ("([{", 3), ("())", 0), (")(", 1), (")))(((", 3), ("(]", 0),
                           ("{a}[", 1), ("(" * 4000, 4000), (" ( ) ", 0), ("()()(", 1), ("(()", 1)):
            self.assertEqual(depth_of(None, "whatever", row), depth)
            self.assertEqual(depth_of(None, None, row), depth)
        self.assertEqual(depth_of(book=QUOTES, mode="c", row="('(' ["), 2)
        self.assertEqual(depth_of(QUOTES, "q", "((' (("), 2)
        self.assertEqual(depth_of(QUOTES, "c", "(())"), 2)
        self.assertEqual(depth_of(QUOTES, "c", "(() )"), 0)
        self.assertEqual(depth_of(QUOTES, "c", "(("), 2)
        self.assertEqual(depth_of(QUOTES, "q", "(("), 0)

    def test_closes(self):
        for sign in " ab([{<>":
            self.assertIs(closes(None, "x", sign), False)
        for sign in ")]}":
            self.assertIs(closes(None, "x", sign), True)
            self.assertIs(closes(None, None, sign + "("), True)
            self.assertIs(closes(None, None, " " + sign), False)
            self.assertIs(closes(QUOTES, "c", sign), True)
            self.assertIs(closes(QUOTES, "q", sign), False)
        self.assertIs(closes(QUOTES, "c", "))"), False)
        self.assertIs(closes(QUOTES, "c", ")a)"), True)
        self.assertIs(closes(book=None, mode="x", row=""), False)
        self.assertIs(closes(QUOTES, "c", ""), False)

    def test_drawn(self):
        rng = rng_for("depths")
        for _ in range(400):
            row = "".join(rng.choice("()[]{}' a") for _ in range(rng.randint(0, 9)))
            for book, mode in ((None, "c"), (QUOTES, "c"), (QUOTES, "q")):
                self.assertEqual(depth_of(book, mode, row), plain_depth(book, mode, row))
                self.assertIs(closes(book, mode, row), plain_closes(book, mode, row))

    def test_feed_front(self):
        for row, front in (("", 0), ("   ", 3), ("  (", 4), ("  ()", 2), (" " * 59 + "(", 60), (" " * 60, 60),
                           (" " * 61, 60), (" " * 3000 + "(", 60), ("(" * 30, 60), ("(" * 31, 60), ("(" * 29, 58)):
            self.assertEqual(feed_front(None, "x", row), front)
            self.assertEqual(feed_front(QUOTES, "c", row), front)
        self.assertEqual(feed_front(book=QUOTES, mode="q", row="  ( ' ("), 4)
        # The colours are those of the stripped row.
        book = read_book(("mode a", 'rule 1 a "^[(]"'))
        self.assertEqual((feed_front(book, "a", " ("), feed_front(book, "a", "(("), feed_front(book, "a", " a(")),
                         (1, 2, 3))


class TestIndent(unittest.TestCase):

    def check(self, book, text, first, last):
        got = indent_round(book, text, first, last)
        self.assertIs(type(got), tuple)
        want = plain_indented(book, text, first, last)
        if not got:
            self.assertEqual(text, want)
            return got
        check_round(len(text), got)
        self.assertEqual(spliced(text, got), want)
        begins = [0]
        for row in rows_of(text):
            begins.append(begins[-1] + len(row) + 1)
        for at, cut, put in got:
            # A splice stands where a row begins, and either cuts or puts spaces.
            self.assertIn(at, begins)
            self.assertTrue(cut == 0 or put == "")
            self.assertEqual(put.strip(" "), "")
        self.assertEqual(indent_round(book, want, first, last), ())
        return got

    def test_examples(self):
        text = "a(\nb[\nc\n]\n)"
        self.assertEqual(self.check(None, text, 0, 4), ((3, 0, "  "), (6, 0, "    "), (8, 0, "  ")))
        self.assertEqual(indent_round(book=None, text=text, first=1, last=1), ((3, 0, "  "),))
        self.assertEqual(self.check(None, "", 0, 0), ())
        self.assertEqual(self.check(None, "   a", 0, 0), ((0, 3, ""),))

    def test_rows_passed_over(self):
        # Empty rows, rows of spaces, rows in another mode: nothing is done with them, and none counts as above.
        self.assertEqual(self.check(None, "(\n\n   \nb", 0, 3), ((7, 0, "  "),))
        self.assertEqual(self.check(None, "\n  \n   b", 0, 2), ((4, 3, ""),))
        text = "('\n   (x\n   ' (\nb"
        self.assertEqual(self.check(QUOTES, text, 0, 3), ((len(text) - 1, 0, "  "),))
        self.assertEqual(self.check(QUOTES, text, 1, 2), ())
        # Without a book they are rows like others.
        self.assertEqual(len(self.check(None, text, 0, 3)), 3)
        # The stripped row tells the mode, not the row.
        book = read_book(("mode c", 'rule 1 q "^ x"', "mode q"))
        self.assertEqual(self.check(book, " x\n  y\n  z", 0, 2), ((0, 1, ""), (3, 2, ""), (7, 2, "")))

    def test_row_above_outside(self):
        # The nearest row above lies outside of the lines: its own front counts, of whatever length.
        self.assertEqual(self.check(None, "     (\n\n )\n )", 2, 3), ((8, 0, "    "), (11, 0, "  ")))
        for front, want in ((57, 59), (58, 60), (59, 60), (60, 60), (61, 60), (200, 60)):
            text = " " * front + "(\nb"
            self.assertEqual(self.check(None, text, 1, 1), ((front + 2, 0, " " * want),))
        self.assertEqual(self.check(None, " " * 90 + "a\n)", 1, 1), ((92, 0, " " * 60),))
        self.assertEqual(self.check(None, " " * 61 + "a\n)", 1, 1), ((63, 0, " " * 59),))

    def test_bounds(self):
        # A front is at least 0 and at most 60.
        self.assertEqual(self.check(None, "a\n)\n )\n  )", 0, 3), ((4, 1, ""), (7, 2, "")))
        self.assertEqual(self.check(None, "(" * 40 + "\nb\n)", 0, 2), ((41, 0, " " * 60), (43, 0, " " * 58)))
        self.assertEqual(self.check(None, " )\n )", 0, 1), ((0, 1, ""), (3, 1, "")))
        self.assertEqual(self.check(QUOTES, "(\n))", 0, 1), ((2, 0, "  "),))

    def test_drawn(self):
        rng = rng_for("indents")
        for _ in range(250):
            rows = []
            for _ in range(rng.randint(1, 6)):
                rows.append(" " * rng.choice((0, 0, 1, 2, 5, 59, 62)) + "".join(
                    rng.choice("()[}' a") for _ in range(rng.choice((0, 1, 2, 3)))))
            text = "\n".join(rows)
            for book in (None, QUOTES, CODE):
                for first in range(len(rows)):
                    for last in range(first, len(rows)):
                        self.check(book, text, first, last)

    def test_errors(self):
        for book in (None, CODE):
            refused(self, BadPlace, {"at": 3}, indent_round, book, "a\n\nb", 3, 1)
            refused(self, BadPlace, {"at": 3}, indent_round, book, "a\n\nb", 3, 7)
            refused(self, BadPlace, {"at": 7}, indent_round, book, "a\n\nb", 2, 7)
            refused(self, BadPlace, {"at": 1}, indent_round, book, "a\n\nb", 2, 1)
            refused(self, BadPlace, {"at": 0}, indent_round, book, "a\n\nb", 2, 0)
            refused(self, BadPlace, {"at": 1}, indent_round, book, "", 0, 1)
            refused(self, BadPlace, {"at": True}, indent_round, book, "a\nb", True, 1)
            refused(self, BadPlace, {"at": True}, indent_round, book, "a\nb", 0, True)

    def test_longest(self):
        self.assertEqual(indent_round(CODE, "\n" * 4000, 0, 4000), ())
        self.assertEqual(indent_round(None, " " * 4000, 0, 0), ())
        got = self.check(None, "(\n" * 2000, 0, 2000)
        self.assertEqual((len(got), got[40]), (1999, (82, 0, " " * 60)))
        self.check(CODE, "(\n" * 500, 3, 400)
        self.assertEqual(len(indent_round(longest_book(), " z\n" * 1333, 0, 1333)), 1333)


if __name__ == "__main__":
    unittest.main()
