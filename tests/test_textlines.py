"""[14] Rows, lines and columns."""

import itertools
import unittest

from deedstand.errors import BadPlace
from deedstand.textlines import joined, place_of, row_bounds, rows_of, spot_of


def small_texts():
    for many in range(6):
        for signs in itertools.product("ab\n", repeat=many):
            yield "".join(signs)


class TestTextlines(unittest.TestCase):

    def test_examples(self):
        self.assertEqual((rows_of("ab\n"), joined(("ab", "")), rows_of("")), (("ab", ""), "ab\n", ("",)))
        self.assertEqual((spot_of("ab\n", 2), spot_of("ab\n", 3), place_of("ab\ncd", 0, 9)), ((0, 2), (1, 0), 2))
        self.assertEqual((row_bounds("ab\ncd", 1), row_bounds("", 0)), ((3, 5), (0, 0)))

    def test_rows_and_back(self):
        for text in small_texts():
            rows = rows_of(text)
            self.assertIs(type(rows), tuple)
            self.assertEqual(len(rows), text.count("\n") + 1)
            self.assertFalse(any("\n" in row for row in rows))
            self.assertEqual(joined(rows), text)
            self.assertEqual(rows_of(joined(rows)), rows)

    def test_spots_and_places(self):
        for text in small_texts():
            for place in range(len(text) + 1):
                line = text[:place].count("\n")
                column = 0
                while column < place and text[place - column - 1] != "\n":
                    column += 1
                self.assertEqual(spot_of(text, place), (line, column))
                self.assertEqual(place_of(text, line, column), place)

    def test_bounds(self):
        for text in small_texts():
            rows = rows_of(text)
            for line, row in enumerate(rows):
                begin, end = row_bounds(text, line)
                self.assertEqual(text[begin:end], row)
                self.assertEqual(begin, len("\n".join(rows[:line])) + (1 if line else 0))
                for column in range(len(row) + 3):
                    place = place_of(text, line, column)
                    self.assertEqual(place, min(begin + column, end))
                    if column <= len(row):
                        self.assertEqual(spot_of(text, place), (line, column))

    def test_beyond(self):
        for text in small_texts():
            for more in (1, 2):
                with self.assertRaises(BadPlace) as caught:
                    spot_of(text, len(text) + more)
                self.assertEqual(caught.exception.at, len(text) + more)
                line = text.count("\n") + more
                for call in (lambda: place_of(text, line, 0), lambda: row_bounds(text, line)):
                    with self.assertRaises(BadPlace) as caught:
                        call()
                    self.assertEqual(caught.exception.at, line)

    def test_by_name(self):
        self.assertEqual(rows_of(text="\n\n"), ("", "", ""))
        self.assertEqual(joined(rows=("",)), "")
        self.assertEqual(spot_of(text="a\nb", place=3), (1, 1))
        self.assertEqual(place_of(text="a\nb", line=1, column=10 ** 9), 3)
        self.assertEqual(row_bounds(text="\n", line=1), (1, 1))

    def test_longest(self):
        text = "ab\n" * 1333 + "x"
        self.assertEqual(spot_of(text, 4000), (1333, 1))
        self.assertEqual(place_of(text, 1333, 1), 4000)
        self.assertEqual(row_bounds("\n" * 4000, 4000), (4000, 4000))


if __name__ == "__main__":
    unittest.main()
