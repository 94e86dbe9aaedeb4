"""[51] folds, and the lines that they hide."""

import unittest

from deedstand.errors import BadPlace
from deedstand.folding import fold_held, fold_hides, hidden_lines
from deedstand.sheets import Sheet
from tests.plainsheet import PlainSheet, drawn_pair, letters, plain_where
from tests.test_picks import sheet_with
from tests.test_sheets import refused, state_of
from tests.ways import rng_for


def plain_fold(row, text, first, last):
    """The anchors with side 0 at the begin of one line and at the end of another."""
    rows = text.split("\n")
    begin = sum(len(part) + 1 for part in rows[:first])
    end = sum(len(part) + 1 for part in rows[:last]) + len(rows[last])
    signs = [(0, 0)] + list(row)
    return (signs[begin] + (0,), signs[end] + (0,))


def plain_hides(births, row, text, held):
    lines = [text[:plain_where(births, row, anchor)].count("\n") for anchor in held]
    return (lines[0], max(lines))


class TestFolds(unittest.TestCase):

    def test_example(self):
        sheet = sheet_with("a\nbb\n\nc")
        held = fold_held(sheet, 1, 2)
        self.assertEqual((held, fold_hides(sheet, held), hidden_lines(sheet, (held,))),
                         (((1, 1, 0), (1, 4, 0)), (1, 2), (2,)))

    def test_by_name(self):
        sheet = sheet_with("a\nb")
        held = fold_held(sheet=sheet, first=0, last=1)
        self.assertEqual((held, fold_hides(sheet=sheet, held=held), hidden_lines(sheet=sheet, folds=(held, held))),
                         (((0, 0, 0), (1, 2, 0)), (0, 1), (1,)))
        self.assertEqual(hidden_lines(sheet, ()), ())

    def test_wrong_lines(self):
        sheet = sheet_with("a\nb\nc")
        for first, last, wrong in ((3, 4, 3), (3, 0, 3), (9, 9, 9), (10 ** 9, 1, 10 ** 9), (0, 3, 3), (2, 3, 3),
                                   (0, 0, 0), (1, 1, 1), (2, 2, 2), (2, 1, 1), (1, 0, 0), (1, 10 ** 9, 10 ** 9)):
            refused(self, BadPlace, {"at": wrong}, fold_held, sheet, first, last)
        empty = Sheet("s")
        refused(self, BadPlace, {"at": 0}, fold_held, empty, 0, 0)
        refused(self, BadPlace, {"at": 1}, fold_held, empty, 0, 1)
        refused(self, BadPlace, {"at": 1}, fold_held, empty, 1, 0)

    def test_several(self):
        sheet = sheet_with("\n" * 9)
        folds = tuple(fold_held(sheet, first, last) for first, last in ((6, 8), (1, 3), (2, 4), (6, 7), (0, 1)))
        self.assertEqual(hidden_lines(sheet, folds), (1, 2, 3, 4, 7, 8))
        self.assertIs(type(hidden_lines(sheet, folds)), tuple)
        # All is cut: the folds hide nothing then, but they are there again behind an undo.
        sheet.do((((0, 9, ""),),))
        self.assertEqual((hidden_lines(sheet, folds), [fold_hides(sheet, held) for held in folds]), ((), [(0, 0)] * 5))
        sheet.undo()
        self.assertEqual(hidden_lines(sheet, folds), (1, 2, 3, 4, 7, 8))

    def test_crossed(self):
        # The first anchor comes to lie behind the second one; the fold then hides nothing.
        sheet = sheet_with("ab\ncd\nef")
        held = ((1, 5, 0), (1, 2, 0))
        self.assertEqual((fold_hides(sheet, held), hidden_lines(sheet, (held,))), ((2, 2), ()))

    def test_behind_deeds_and_turns(self):
        rng = rng_for("folds")
        hidden = 0
        for _ in range(80):
            sheet, plain, folds = Sheet("s"), PlainSheet(), ()
            for _ in range(8):
                drawn_pair(rng, sheet, plain, 1)
                row = plain.row()
                text = letters(plain.births, row)
                lines = text.count("\n")
                if lines:
                    first = rng.randrange(lines)
                    last = rng.randint(first + 1, lines)
                    before = state_of(sheet)
                    folds += (fold_held(sheet, first, last),)
                    self.assertEqual(folds[-1], plain_fold(row, text, first, last))
                    self.assertEqual(fold_hides(sheet, folds[-1]), (first, last))
                    begin, end = [sheet.where(anchor) for anchor in folds[-1]]
                    self.assertLessEqual(begin, end)
                    self.assertEqual(state_of(sheet), before)
                want = set()
                for held in folds:
                    first, last = plain_hides(plain.births, row, text, held)
                    self.assertEqual(fold_hides(sheet, held), (first, last))
                    want |= set(range(first + 1, last + 1))
                    self.assertLessEqual(sheet.where(held[0]), sheet.where(held[1]))
                self.assertEqual(hidden_lines(sheet, folds), tuple(sorted(want)))
                hidden += len(want)
        self.assertGreater(hidden, 100)


if __name__ == "__main__":
    unittest.main()
