"""[64] colours of rows, from nothing and kept, [66], G10."""

import unittest

from deedstand.bookreading import first_mode, read_book
from deedstand.errors import BadPlace
from deedstand.lexing import lexed
from deedstand.plaintints import tints_from_nothing
from deedstand.tintkeeping import Tints
from tests.test_books import CODE_ROWS, plain_lexed
from tests.test_sheets import refused
from tests.ways import rng_for

CODE = read_book(CODE_ROWS)
THREE_ROWS = ("mode a", 'rule 1 b "x"', 'rule 2 a "y+"', "mode b", 'rule 3 c "x"', 'rule 4 b "^y"', "mode c",
              'rule 5 a "x$"', 'rule 6 c "[yz]"')
THREE = read_book(THREE_ROWS)


def plain_tints(book_rows, first, rows):
    """The mode and the colours, sign by sign, of each row."""
    found, mode = [], first
    for row in rows:
        colours, behind = plain_lexed(book_rows, mode, row)
        found.append((mode, colours))
        mode = behind
    return found


def unfolded(spans):
    return [colour for many, colour in spans for _ in range(many)]


def longest_book():
    """A book with 8 modes of 20 rules."""
    rows = []
    for k in range(8):
        rows += [f"mode m{k}"]
        rows += [f'rule {1 + n % 8} m{(k + n) % 8} "{"abcdefghijklmnopqrst"[n]}{{{1 + n % 3}}}"' for n in range(20)]
    return read_book(tuple(rows))


class TestFromNothing(unittest.TestCase):

    def test_by_hand(self):
        self.assertEqual(tints_from_nothing(CODE, ()), ())
        self.assertEqual(tints_from_nothing(CODE, ("",)), (("code", ()),))
        self.assertEqual(tints_from_nothing(book=CODE, rows=("a<", "", "b>", "if")),
                         (("code", ((1, 2), (1, 3))), ("note", ()), ("note", ((2, 3),)), ("code", ((2, 1),))))
        # The first row begins in the first mode, whatever its name.
        self.assertEqual(tints_from_nothing(read_book(("mode z", "mode a")), ("q",)), (("z", ((1, 0),)),))

    def test_drawn(self):
        rng = rng_for("tints")
        for _ in range(150):
            rows = tuple("".join(rng.choice("xyz") for _ in range(rng.randint(0, 5))) for _ in range(rng.randint(1, 8)))
            tints = tints_from_nothing(THREE, rows)
            self.assertTrue(type(tints) is tuple and all(type(tint) is tuple for tint in tints))
            self.assertEqual([(mode, unfolded(spans)) for mode, spans in tints], plain_tints(THREE_ROWS, "a", rows))
            for row, (_, spans) in zip(rows, tints):
                self.assertEqual(sum(many for many, _ in spans), len(row))
                self.assertTrue(all(many > 0 for many, _ in spans))
                self.assertTrue(all(one[1] != other[1] for one, other in zip(spans, spans[1:])))

    def test_longest(self):
        self.assertEqual(tints_from_nothing(CODE, ("",) * 4001), (("code", ()),) * 4001)
        book = longest_book()
        tints = tints_from_nothing(book, ("abcdefghijklmnopqrst" * 200,))
        self.assertEqual(sum(many for many, _ in tints[0][1]), 4000)
        self.assertEqual(len(tints_from_nothing(book, ("a",) * 2000)), 2000)


def same_tints(case, tints, book, rows):
    """The lines are as from nothing, and those behind are not there."""
    want = tints_from_nothing(book, rows)
    case.assertEqual(tuple((tints.row_mode(line), tints.row_spans(line)) for line in range(len(rows))), want)
    for line in (len(rows), len(rows) + 1, 10 ** 9, True, -1):
        refused(case, BadPlace, {"at": line}, tints.row_mode, line)
        refused(case, BadPlace, {"at": line}, tints.row_spans, line)


class TestKept(unittest.TestCase):

    def test_example(self):
        tints = Tints(CODE)
        same_tints(self, tints, CODE, ())
        self.assertEqual(tints.refresh(("a", "b", "a")), (0, 1))
        self.assertEqual(tints.refresh(("a<", "b", "a")), (0, 1, 2))
        self.assertEqual(tints.refresh(("a<", "b", "a")), ())
        # What was gone is known when it comes back; the mode counts.
        self.assertEqual(tints.refresh(rows=("a", "b", "b", "a<", "a")), ())
        same_tints(self, tints, CODE, ("a", "b", "b", "a<", "a"))
        self.assertEqual(tints.refresh(()), ())
        same_tints(self, tints, CODE, ())
        self.assertEqual(tints.refresh(("",)), (0,))
        self.assertEqual(tints.refresh(("<", "", "")), (0, 1))
        self.assertEqual((tints.row_mode(line=1), tints.row_spans(line=1)), ("note", ()))

    def test_by_name(self):
        tints = Tints(book=CODE)
        got = tints.refresh(("a",))
        self.assertEqual(got, (0,))
        self.assertIs(type(got), tuple)
        self.assertIs(type(tints.row_spans(0)), tuple)

    def check_refresh(self, tints, met, rows):
        """One refresh against a plain record of all pairs ever met."""
        want, mode = [], first_mode(THREE)
        for line, row in enumerate(rows):
            if (mode, row) not in met:
                met.add((mode, row))
                want.append(line)
            mode = lexed(THREE, mode, row)[1]
        self.assertEqual(tints.refresh(rows), tuple(want))
        same_tints(self, tints, THREE, rows)
        self.assertEqual(tints.refresh(rows), ())
        same_tints(self, tints, THREE, rows)

    def test_drawn_changes(self):
        rng = rng_for("kept tints")
        for _ in range(25):
            tints, met, rows = Tints(THREE), set(), ["y"]
            for _ in range(25):
                kind, at = rng.random(), rng.randint(0, len(rows))
                row = "".join(rng.choice("xyz") for _ in range(rng.randint(0, 3)))
                if kind < 0.35:
                    rows[at:at] = [row] * rng.randint(1, 3)
                elif kind < 0.6:
                    rows[at:at + rng.randint(1, 3)] = []
                elif kind < 0.8:
                    rows[at:at + 1] = [row]
                else:
                    # The mode changes far above.
                    rows[:1] = [rng.choice(("x", "y", "xx", ""))]
                self.check_refresh(tints, met, tuple(rows))

    def test_two_objects(self):
        one, other = Tints(CODE), Tints(CODE)
        self.assertEqual((one.refresh(("a",)), other.refresh(("b", "a"))), ((0,), (0, 1)))
        self.assertEqual((one.row_spans(0), other.row_mode(1)), (((1, 2),), "code"))

    def test_longest(self):
        tints = Tints(longest_book())
        rows = tuple("abcdefghijklmnopqrst"[k % 20] for k in range(2000))
        fresh = tints.refresh(rows)
        self.assertLessEqual(len(fresh), 160)
        same_tints(self, tints, longest_book(), rows)
        tints = Tints(CODE)
        self.assertEqual(tints.refresh(("",) * 4001), (0,))
        self.assertEqual(tints.refresh(("if " * 1333,)), (0,))


if __name__ == "__main__":
    unittest.main()
