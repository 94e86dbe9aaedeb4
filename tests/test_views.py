"""[52] views, with [8], [47], [48] and [51]; G7 and G9 for views."""

import unittest

from deedstand.errors import BadPlace, TooMuch
from deedstand.folding import fold_held, hidden_lines
from deedstand.pickmarks import pick_held, pick_told
from deedstand.settling import settled_picks
from deedstand.sheets import Sheet
from deedstand.views import View
from tests.plainsheet import PlainSheet, drawn_pair, letters, plain_where
from tests.test_folding import plain_fold, plain_hides
from tests.test_picks import plain_held, plain_settled, sheet_with
from tests.test_sheets import refused, state_of
from tests.ways import rng_for

FIRST = (0, 0, 0)


def fields_of(view):
    return {name: getattr(view, name) for name in ("width", "height", "wordwise", "held", "folded", "top", "book")}


def plain_places(births, row, held):
    """The settled picks of what is held, by counting."""
    picks = []
    for pair in held:
        tail, head = [plain_where(births, row, anchor) for anchor in pair]
        low, high = (head, tail) if pair[1][2] else (tail, head)
        picks.append((high, high) if low > high else (tail, head))
    return plain_settled(picks)


class TestFields(unittest.TestCase):

    def test_new(self):
        view = View()
        self.assertEqual(fields_of(view), {"width": 80, "height": 24, "wordwise": False, "held": ((FIRST, FIRST),),
                                           "folded": (), "top": FIRST, "book": None})
        sheet = sheet_with("ab\nc")
        self.assertEqual((view.places(sheet), view.hidden(sheet), view.top_place(sheet)), (((0, 0),), (), 0))
        sheet = Sheet("t")
        self.assertEqual((view.places(sheet), view.hidden(sheet), view.top_place(sheet)), (((0, 0),), (), 0))
        with self.assertRaises(TypeError):
            View(80, 24)

    def test_drawn_sizes(self):
        rng = rng_for("sizes")
        for _ in range(60):
            width, height, wordwise = rng.randint(4, 80), rng.randint(1, 40), rng.random() < 0.5
            view = View(width=width, height=height, wordwise=wordwise)
            self.assertEqual((view.width, view.height, view.wordwise), (width, height, wordwise))
            width, height = rng.randint(4, 80), rng.randint(1, 40)
            self.assertIsNone(view.resize(width, height))
            self.assertEqual((view.width, view.height, view.wordwise), (width, height, wordwise))
            self.assertIsNone(view.wrap(not wordwise))
            self.assertEqual(view.wordwise, not wordwise)
        self.assertEqual((View(width=5).width, View(height=3).height, View(wordwise=True).wordwise), (5, 3, True))

    def test_resize(self):
        view = View(width=9, height=8)
        for width, height in ((4, 1), (4, 40), (80, 1), (80, 40)):
            self.assertIsNone(view.resize(width=width, height=height))
            self.assertEqual((view.width, view.height), (width, height))
        before = fields_of(view)
        for width, height in ((3, 1), (81, 1), (4, 0), (4, 41), (0, 0), (-4, 5), (10 ** 9, 24), (80, 10 ** 9), (3, 41)):
            refused(self, TooMuch, {"what": "size"}, view.resize, width, height)
            self.assertEqual(fields_of(view), before)

    def test_wrap_and_dye(self):
        view, book = View(), ("any", "value")
        self.assertIsNone(view.wrap(wordwise=True))
        self.assertIsNone(view.dye(book=book))
        self.assertEqual((view.wordwise, view.book), (True, book))
        self.assertIsNone(view.dye(None))
        self.assertIsNone(view.wrap(False))
        self.assertEqual((view.wordwise, view.book), (False, None))

    def test_two_views(self):
        sheet = sheet_with("ab\nc")
        one, other = View(), View()
        one.hold(sheet, ((2, 1), (4, 4)))
        one.fold(sheet, 0, 1)
        one.set_top(sheet, 1)
        self.assertEqual((other.places(sheet), other.hidden(sheet), other.top_place(sheet)), (((0, 0),), (), 0))
        self.assertEqual((one.places(sheet), one.hidden(sheet), one.top_place(sheet)), (((2, 1), (4, 4)), (1,), 3))


class TestPicks(unittest.TestCase):

    def test_hold(self):
        sheet, view = sheet_with("abcdefghij"), View()
        before = state_of(sheet)
        self.assertIsNone(view.hold(sheet=sheet, picks=((5, 3), (4, 7), (9, 9), (9, 8), (9, 10))))
        self.assertEqual(view.held, tuple(pick_held(sheet, *pick) for pick in ((3, 7), (9, 8), (9, 10))))
        self.assertEqual((view.places(sheet=sheet), state_of(sheet)), (((3, 7), (9, 8), (9, 10)), before))
        view.hold(sheet, ((10, 10), (0, 0), (10, 10)))
        self.assertEqual((view.held, view.places(sheet)), ((((0, 0, 0),) * 2, ((1, 9, 0),) * 2), ((0, 0), (10, 10))))

    def test_bad_places(self):
        sheet, view = sheet_with("abc"), View()
        view.hold(sheet, ((1, 2),))
        before = fields_of(view)
        for pick, wrong in (((4, 0), 4), ((0, 4), 4), ((5, 6), 5), ((6, 5), 6), ((4, 4), 4), ((3, 10 ** 9), 10 ** 9)):
            refused(self, BadPlace, {"at": wrong}, view.hold, sheet, (pick,))
            refused(self, BadPlace, {"at": wrong}, view.hold, sheet, (pick, (0, 0)))
            self.assertEqual(fields_of(view), before)
        self.assertEqual(view.places(sheet), ((1, 2),))

    def test_too_many(self):
        sheet, view = sheet_with("a" * 300), View()
        hundred = tuple((k, k + 1) for k in range(100))
        view.hold(sheet, hundred)
        self.assertEqual((view.places(sheet), len(view.held)), (hundred, 100))
        before = fields_of(view)
        refused(self, TooMuch, {"what": "picks"}, view.hold, sheet, hundred + ((200, 200),))
        refused(self, TooMuch, {"what": "picks"}, view.hold, sheet, tuple((k, k) for k in range(301)))
        self.assertEqual(fields_of(view), before)
        # Only those that result count.
        view.hold(sheet, hundred + hundred + ((0, 9),))
        self.assertEqual(view.places(sheet), ((0, 9),) + hundred[9:])
        view.hold(sheet, tuple((k, k + 2) for k in range(298)))
        self.assertEqual(view.places(sheet), ((0, 299),))

    def test_behind_all_that_is_done(self):
        rng = rng_for("held picks")
        joined = 0
        for _ in range(80):
            sheet, plain, view = Sheet("s"), PlainSheet(), View()
            drawn_pair(rng, sheet, plain, 3)
            held = ((FIRST, FIRST),)
            for _ in range(7):
                drawn_pair(rng, sheet, plain, 1)
                row = plain.row()
                before = state_of(sheet), fields_of(view)
                want = plain_places(plain.births, row, held)
                joined += len(want) < len(held)
                self.assertEqual(view.places(sheet), want)
                self.assertIs(type(view.places(sheet)), tuple)
                self.assertEqual((view.places(sheet.trial()), settled_picks(want)), (want, want))
                self.assertEqual((state_of(sheet), fields_of(view)), before)
                if rng.random() < 0.5:
                    picks = tuple((rng.randint(0, len(row)), rng.randint(0, len(row))) for _ in range(3))
                    self.assertIsNone(view.hold(sheet, picks))
                    held = tuple(plain_held(row, *pick) for pick in plain_settled(picks))
                    self.assertEqual((view.held, view.places(sheet)), (held, plain_settled(picks)))
                    self.assertEqual((type(view.held), state_of(sheet)), (tuple, before[0]))
        self.assertGreater(joined, 20)

    def test_held_signs_hidden(self):
        sheet, view = sheet_with("abcd"), View()
        view.hold(sheet, ((1, 3), (4, 4)))
        sheet.do((((0, 4, ""),),))
        self.assertEqual(view.places(sheet), ((0, 0),))
        sheet.do((((0, 0, "xyz"),),))
        # The anchors of low and high have crossed over: low lies behind what was put, high ahead of it.
        self.assertEqual([sheet.where(anchor) for anchor in view.held[0]], [3, 0])
        self.assertEqual((pick_told(sheet, view.held[0]), view.places(sheet)), ((0, 0), ((0, 0),)))
        sheet.go(1)
        self.assertEqual(view.places(sheet), ((1, 3), (4, 4)))


class TestFolds(unittest.TestCase):

    def test_fold_and_unfold(self):
        sheet, view = sheet_with("a\nb\nc\nd\ne\nf"), View()
        before = state_of(sheet)
        self.assertIsNone(view.fold(sheet=sheet, first=1, last=3))
        self.assertEqual((view.folded, view.hidden(sheet=sheet)), ((fold_held(sheet, 1, 3),), (2, 3)))
        view.fold(sheet, 0, 1)
        view.fold(sheet, 3, 5)
        folds = tuple(fold_held(sheet, first, last) for first, last in ((1, 3), (0, 1), (3, 5)))
        self.assertEqual((view.folded, view.hidden(sheet)), (folds, (1, 2, 3, 4, 5)))
        for line, kept in ((0, (0, 2)), (1, (2,)), (2, (1, 2)), (3, (1,)), (4, (0, 1)), (5, (0, 1)), (6, (0, 1, 2))):
            view.folded = folds
            self.assertIsNone(view.unfold(sheet=sheet, line=line))
            self.assertEqual(view.folded, tuple(folds[k] for k in kept), line)
            self.assertEqual(view.hidden(sheet), hidden_lines(sheet, view.folded))
        self.assertEqual(state_of(sheet), before)

    def test_wrong_lines(self):
        sheet, view = sheet_with("a\nb\nc"), View()
        view.fold(sheet, 0, 1)
        before = fields_of(view)
        for first, last, wrong in ((3, 4, 3), (3, 0, 3), (0, 3, 3), (1, 1, 1), (2, 1, 1), (0, 0, 0), (9, 10 ** 9, 9)):
            refused(self, BadPlace, {"at": wrong}, view.fold, sheet, first, last)
        for wrong in (3, 4, 10 ** 9):
            refused(self, BadPlace, {"at": wrong}, view.set_top, sheet, wrong)
        self.assertEqual(fields_of(view), before)

    def test_too_many(self):
        sheet, view = sheet_with("\n" * 60), View()
        for k in range(40):
            self.assertIsNone(view.fold(sheet, k, k + 2))
        before = fields_of(view)
        refused(self, TooMuch, {"what": "folds"}, view.fold, sheet, 0, 1)
        refused(self, BadPlace, {"at": 61}, view.fold, sheet, 61, 62)
        refused(self, BadPlace, {"at": 5}, view.fold, sheet, 5, 5)
        self.assertEqual((fields_of(view), len(view.folded)), (before, 40))
        view.unfold(sheet, 41)
        self.assertEqual(len(view.folded), 39)
        view.fold(sheet, 0, 1)
        refused(self, TooMuch, {"what": "folds"}, view.fold, sheet, 0, 1)

    def test_behind_all_that_is_done(self):
        rng = rng_for("held folds")
        hidden = dropped = 0
        for _ in range(80):
            sheet, plain, view, folds, top = Sheet("s"), PlainSheet(), View(), (), FIRST
            for _ in range(8):
                drawn_pair(rng, sheet, plain, 1)
                row = plain.row()
                text = letters(plain.births, row)
                lines, before = text.count("\n"), state_of(sheet)
                told = [plain_hides(plain.births, row, text, held) for held in folds]
                want = sorted({line for first, last in told for line in range(first + 1, last + 1)})
                self.assertEqual((view.hidden(sheet), view.folded), (tuple(want), folds))
                self.assertEqual(view.hidden(sheet.trial()), tuple(want))
                self.assertEqual(view.top_place(sheet), plain_where(plain.births, row, top))
                hidden += len(want)
                kind = rng.random()
                if kind < 0.5 and lines:
                    first = rng.randrange(lines)
                    last = rng.randint(first + 1, lines)
                    self.assertIsNone(view.fold(sheet, first, last))
                    folds += (plain_fold(row, text, first, last),)
                elif kind < 0.7:
                    line = rng.randint(0, lines)
                    view.unfold(sheet, line)
                    kept = tuple(held for held, (first, last) in zip(folds, told) if not first <= line <= last)
                    dropped += len(folds) - len(kept)
                    folds = kept
                else:
                    line = rng.randint(0, lines)
                    self.assertIsNone(view.set_top(sheet, line))
                    begin = sum(len(part) + 1 for part in text.split("\n")[:line])
                    top = ([(0, 0)] + row)[begin] + (0,)
                    self.assertEqual((view.top, view.top_place(sheet)), (top, begin))
                self.assertEqual((view.folded, state_of(sheet)), (folds, before))
        self.assertTrue(hidden > 100 and dropped > 10, (hidden, dropped))


class TestTrials(unittest.TestCase):

    def test_sheet_and_trials_by_turns(self):
        sheet, view = sheet_with("ab\ncd\nef"), View()
        view.hold(sheet, ((1, 4), (7, 7)))
        view.fold(sheet, 1, 2)
        view.set_top(sheet, 1)
        first, second = sheet.trial(), sheet.trial()
        first.do((((0, 0, "xyz\n"),),))
        second.do((((0, 3, ""),),))
        third = second.trial()
        third.do((((3, 2, ""),),))
        seen = {}
        for _ in range(2):
            for name, one in (("sheet", sheet), ("first", first), ("second", second), ("third", third)):
                got = view.places(one), view.hidden(one), view.top_place(one)
                self.assertEqual(seen.setdefault(name, got), got)
        self.assertEqual(seen, {"sheet": (((1, 4), (7, 7)), (2,), 3), "first": (((5, 8), (11, 11)), (3,), 7),
                                "second": (((0, 1), (4, 4)), (1,), 0), "third": (((0, 1), (3, 3)), (1,), 0)})

    def test_same_deeds_same_view(self):
        """G7: where the same deeds stand, a view tells the same."""
        rng = rng_for("same views")
        met = 0
        for _ in range(60):
            sheet, plain, view = Sheet("s"), PlainSheet(), View()
            drawn_pair(rng, sheet, plain, 9)
            sheet.go(rng.randrange(len(plain.nodes)))
            size, lines = sheet.size(), sheet.row_many() - 1
            view.hold(sheet, tuple((rng.randint(0, size), rng.randint(0, size)) for _ in range(3)))
            if lines:
                view.fold(sheet, rng.randrange(lines), lines)
            view.set_top(sheet, rng.randint(0, lines))
            seen = {}
            for node in range(len(plain.nodes)):
                sheet.go(node)
                got = view.places(sheet), view.hidden(sheet), view.top_place(sheet)
                met += sheet.standing() in seen
                self.assertEqual(seen.setdefault(sheet.standing(), got), got)
                for one, other in zip(got[0], got[0][1:]):
                    self.assertTrue(max(one) < min(other) or max(one) == min(other) and one[0] != one[1]
                                    and other[0] != other[1])
        self.assertGreater(met, 20)

    def test_longest(self):
        sheet, view = sheet_with("abc\n" * 1000), View(width=4, height=40, wordwise=True)
        picks = tuple((k, k + 20) for k in range(0, 4000, 40))
        view.hold(sheet, picks)
        for k in range(40):
            view.fold(sheet, 20 * k, 20 * k + 9)
        view.set_top(sheet, 1000)
        self.assertEqual((view.places(sheet), view.top_place(sheet)), (picks, 4000))
        self.assertEqual(view.hidden(sheet), tuple(20 * k + n for k in range(40) for n in range(1, 10)))
        sheet.do((tuple((40 * k + 30, 1, "") for k in range(100)),))
        self.assertEqual(view.places(sheet), tuple((39 * k, 39 * k + 20) for k in range(100)))


if __name__ == "__main__":
    unittest.main()
