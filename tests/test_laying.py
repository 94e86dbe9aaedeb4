"""[67] rows in pieces, [68] places in screen rows, top rows, [69] kept layouts, [72], G10."""

import unittest

from deedstand.errors import BadPlace
from deedstand.laying import laid
from deedstand.layouts import Layout
from deedstand.rowplaces import place_in, row_at
from deedstand.scrolling import top_row
from tests.test_sheets import refused
from tests.ways import rng_for


def plain_pieces(row, width, wordwise):
    """[67], sign by sign: the row is eaten from the left."""
    pieces, start = [], 0
    while len(row) - start > width:
        many = width
        if wordwise and " " in row[start:start + width]:
            many = max(k + 1 for k in range(width) if row[start + k] == " ")
        pieces.append((start, start + many))
        start += many
    return tuple(pieces + [(start, len(row))])


def is_cut(row, start, end, width, wordwise):
    """[72]: whether a piece from start to end, not the last one, is allowed."""
    if not start < end <= min(start + width, len(row)):
        return False
    return not wordwise or row[end - 1] == " " or (end - start == width and " " not in row[start:end])


def divisions(row, width, wordwise, start=0):
    """All allowed divisions of a row, each the list of the ends of its pieces."""
    if len(row) - start <= width:
        yield [len(row)]
    for end in range(start + 1, min(start + width, len(row)) + 1):
        if is_cut(row, start, end, width, wordwise):
            for rest in divisions(row, width, wordwise, end):
                yield [end] + rest


def plain_rows(rows, width, wordwise, hidden=()):
    return tuple((line, start, end) for line, row in enumerate(rows) if line not in hidden
                 for start, end in plain_pieces(row, width, wordwise))


class TestLaid(unittest.TestCase):

    def test_examples(self):
        self.assertEqual((laid("", 4), laid("ab cd ef", 4)), (((0, 0),), ((0, 4), (4, 8))))
        self.assertEqual(laid("abcdef gh", 4, wordwise=True), ((0, 4), (4, 7), (7, 9)))
        self.assertEqual(laid(row="abcde", width=4), ((0, 4), (4, 5)))
        with self.assertRaises(TypeError):
            laid("a", 4, True)

    def test_spaces(self):
        for row, pieces in (("     ", ((0, 4), (4, 5))), ("    ", ((0, 4),)), ("a    b", ((0, 4), (4, 6))),
                            ("a b c d", ((0, 4), (4, 7))), (" abcdef", ((0, 1), (1, 5), (5, 7))),
                            ("abcd ef", ((0, 4), (4, 7))), ("abcd efg ", ((0, 4), (4, 5), (5, 9))),
                            ("abc def", ((0, 4), (4, 7))), ("ab cdef ", ((0, 3), (3, 7), (7, 8)))):
            self.assertEqual(laid(row, 4, wordwise=True), pieces)

    def test_all_widths(self):
        rng = rng_for("laying")
        for width in range(4, 81):
            for many in sorted({0, 1, width - 1, width, width + 1, 2 * width - 1, 2 * width, 2 * width + 1, 3 * width}):
                for letters in ("a", "aaaaa ", "aa ", "a  ", " "):
                    row = "".join(rng.choice(letters) for _ in range(many))
                    for wordwise in (False, True):
                        got = laid(row, width, wordwise=wordwise)
                        self.assertEqual(got, plain_pieces(row, width, wordwise))
                        self.assertTrue(type(got) is tuple and all(type(piece) is tuple for piece in got))

    def test_fewest(self):
        rng = rng_for("divisions")
        for _ in range(250):
            row = "".join(rng.choice("ab ") for _ in range(rng.randint(0, 13)))
            width = rng.randint(4, 6)
            for wordwise in (False, True):
                ends = [end for _, end in laid(row, width, wordwise=wordwise)]
                others = list(divisions(row, width, wordwise))
                self.assertIn(ends, others)
                self.assertEqual(len(ends), min(len(other) for other in others))
                for other in others:
                    self.assertTrue(all(one >= two for one, two in zip(ends, other)))

    def test_longest(self):
        self.assertEqual(laid("a" * 4000, 4), tuple((k, k + 4) for k in range(0, 4000, 4)))
        self.assertEqual(laid("a" * 4000, 80, wordwise=True), tuple((k, k + 80) for k in range(0, 4000, 80)))
        self.assertEqual(laid("a " * 2000, 5, wordwise=True), tuple((k, k + 4) for k in range(0, 4000, 4)))


class TestPlaces(unittest.TestCase):

    def test_example(self):
        rows = ((0, 0, 4), (0, 4, 6), (2, 0, 4))
        self.assertEqual((place_in(rows, 0, 4, 4), place_in(rows, 1, 0, 4), place_in(rows, 2, 4, 4)),
                         ((1, 0), (1, 2), (2, 3)))
        self.assertEqual((row_at(screen_rows=rows, line=0, column=3), row_at(rows, 1, 10 ** 9)), (0, 1))
        self.assertEqual(place_in(screen_rows=rows, line=9, column=0, width=4), (2, 3))

    def test_drawn(self):
        rng = rng_for("places")
        for _ in range(200):
            rows = ["".join(rng.choice("ab ") for _ in range(rng.randint(0, 11))) for _ in range(rng.randint(1, 5))]
            width, wordwise = rng.randint(4, 6), rng.random() < 0.5
            hidden = [line for line in range(1, len(rows)) if rng.random() < 0.4]
            screen_rows = plain_rows(rows, width, wordwise, hidden)
            for line in range(len(rows) + 2):
                for column in list(range(15)) + [10 ** 9]:
                    shown = [k for k, row in enumerate(screen_rows) if row[0] == line]
                    if shown:
                        want = [k for k in shown if screen_rows[k][1] <= column][-1]
                        tile = column - screen_rows[want][1]
                    else:
                        want = [k for k, row in enumerate(screen_rows) if row[0] < line][-1]
                        tile = screen_rows[want][2] - screen_rows[want][1]
                    self.assertEqual(row_at(screen_rows, line, column), want)
                    got = place_in(screen_rows, line, column, width)
                    self.assertEqual(got, (want, min(width - 1, tile)))
                    self.assertIs(type(got), tuple)

    def test_long(self):
        rows = tuple((line, 0, 0) for line in range(4001))
        self.assertEqual([row_at(rows, line, 5) for line in (0, 1, 2000, 3999, 4000)], [0, 1, 2000, 3999, 4000])
        rows = tuple((0, start, start + 4) for start in range(0, 4000, 4))
        self.assertEqual((place_in(rows, 0, 3999, 4), place_in(rows, 0, 4000, 4), place_in(rows, 1, 0, 4)),
                         ((999, 3), (999, 3), (999, 3)))

    def test_top_row(self):
        for first in range(12):
            for caret in range(12):
                for height in range(1, 6):
                    tops = [top for top in range(-6, 20) if top <= caret < top + height]
                    nearest = min(tops, key=lambda top: abs(top - first))
                    self.assertEqual(top_row(first, caret, height), nearest)
        self.assertEqual(top_row(first=3, caret=9, height=2), 8)


class TestLayout(unittest.TestCase):

    def same_rows(self, layout, rows):
        self.assertEqual([layout.bounds(line) for line in range(len(rows))],
                         [plain_pieces(row, layout.width, layout.wordwise) for row in rows])
        for line in (len(rows), len(rows) + 5, True, -1):
            refused(self, BadPlace, {"at": line}, layout.bounds, line)

    def test_example(self):
        layout = Layout(4)
        self.assertEqual((layout.width, layout.wordwise), (4, False))
        self.same_rows(layout, ())
        self.assertEqual(layout.screen_rows(()), ())
        self.assertEqual(layout.refresh(("abcdef", "", "abcdef")), (0, 1))
        self.assertEqual(layout.screen_rows((2,)), ((0, 0, 4), (0, 4, 6), (1, 0, 0)))
        self.assertEqual(layout.screen_rows(hidden=()), plain_rows(("abcdef", "", "abcdef"), 4, False))
        self.assertEqual(layout.bounds(line=1), ((0, 0),))
        self.assertEqual(layout.refresh(rows=("", "abcdef", "g")), (2,))
        self.same_rows(layout, ("", "abcdef", "g"))
        # Rows that were gone are known when they come back.
        self.assertEqual(layout.refresh(("abcdef", "h", "h")), (1,))
        self.assertEqual(layout.refresh(("g", "g")), ())
        self.same_rows(layout, ("g", "g"))
        self.assertEqual(layout.refresh(()), ())
        self.same_rows(layout, ())
        layout = Layout(width=7, wordwise=True)
        self.assertEqual((layout.width, layout.wordwise), (7, True))
        layout.refresh(("ab cdefghi",))
        self.assertEqual(layout.bounds(0), ((0, 3), (3, 10)))
        with self.assertRaises(TypeError):
            Layout(4, True)

    def test_drawn(self):
        rng = rng_for("layouts")
        for _ in range(40):
            width, wordwise = rng.randint(4, 9), rng.random() < 0.5
            layout, met, rows = Layout(width, wordwise=wordwise), set(), [""]
            for _ in range(20):
                at = rng.randint(0, len(rows))
                put = ["".join(rng.choice("a ") for _ in range(rng.choice((1, 2, 9, 12))))
                       for _ in range(rng.randint(0, 2))]
                rows[at:at + rng.randint(0, 2)] = put
                want = []
                for line, row in enumerate(rows):
                    if row not in met:
                        want.append(line)
                        met.add(row)
                got = layout.refresh(tuple(rows))
                self.assertEqual(got, tuple(want))
                self.assertIs(type(got), tuple)
                self.same_rows(layout, rows)
                for chance in (0, 0.3, 0.9):
                    hidden = tuple(line for line in range(len(rows)) if rng.random() < chance)
                    screen_rows = layout.screen_rows(hidden)
                    self.assertEqual(screen_rows, plain_rows(rows, width, wordwise, hidden))
                    self.assertTrue(type(screen_rows) is tuple and all(type(row) is tuple for row in screen_rows))

    def test_longest(self):
        layout = Layout(4)
        self.assertEqual(layout.refresh(("",) * 4001), (0,))
        self.assertEqual(layout.screen_rows(tuple(range(1, 4000))), ((0, 0, 0), (4000, 0, 0)))
        self.assertEqual(len(layout.screen_rows(())), 4001)
        self.assertEqual(layout.refresh(("a" * 4000, "")), (0,))
        self.assertEqual(len(layout.screen_rows((1,))), 1000)


if __name__ == "__main__":
    unittest.main()
