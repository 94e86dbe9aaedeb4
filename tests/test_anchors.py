"""[44] anchors, gaps and marks of sheets, [8] by counting, and G5."""

import unittest

from deedstand.errors import BadPlace, NoSuch
from deedstand.gapplaces import anchor_at
from deedstand.sheetmarks import SheetMarks
from deedstand.sheets import Sheet
from deedstand.splicing import moved_place
from tests.plainsheet import PlainSheet, drawn_deed, drawn_pair, plain_gap, plain_where
from tests.test_sheets import refused, state_of
from tests.ways import END, HEAD, all_signs, rng_for


def anchors_of(births):
    return [sign + (side,) for sign in all_signs(births) for side in (0, 1)]


def stays_at_end(anchor):
    """G5: HEAD with side 1 and END with side 0."""
    return anchor in (HEAD + (1,), END + (0,))


def moved_as_told(place, side, splice):
    """G5, word by word."""
    at, cut, text = splice
    if side == 0:
        if place <= at:
            return place
        return place - cut + len(text) if place > at + cut else at
    if place < at:
        return place
    return place - cut + len(text) if place >= at + cut else at + len(text)


class TestAnchors(unittest.TestCase):

    def test_by_hand(self):
        sheet = SheetMarks("s")
        sheet.do((((0, 0, "ab"),),))
        sheet.do((((1, 1, ""),),))
        sheet.do((((1, 0, "X"),),))
        self.assertEqual(sheet.gap((1, 1)), (1, 2))
        self.assertEqual([sheet.where((1, 1, side)) for side in (0, 1)], [1, 2])
        self.assertEqual([sheet.anchor(place, 0) for place in range(3)], [(0, 0, 0), (1, 0, 0), (2, 0, 0)])
        self.assertEqual([sheet.anchor(place, 1) for place in range(3)], [(1, 0, 1), (2, 0, 1), (0, 1, 1)])
        self.assertEqual((sheet.gap(HEAD), sheet.gap(END), sheet.gap((1, 0)), sheet.gap((2, 0))),
                         ((0, 0), (2, 2), (0, 1), (1, 2)))
        self.assertEqual((sheet.anchor(place=1, side=1), sheet.where(anchor=(2, 0, 1)), sheet.gap(sign=(1, 1))),
                         ((2, 0, 1), 1, (1, 2)))
        for side in (0, 1):
            for place in (3, 4, 10 ** 9):
                refused(self, BadPlace, {"at": place}, sheet.anchor, place, side)

    def test_every_sign(self):
        rng = rng_for("anchors")
        hidden = 0
        for _ in range(100):
            sheet, plain = Sheet("s"), PlainSheet()
            for _ in range(6):
                drawn_pair(rng, sheet, plain, rng.randint(1, 2))
                before, row = state_of(sheet), plain.row()
                for sign in all_signs(plain.births):
                    low, high = plain_gap(plain.births, row, sign)
                    self.assertEqual(sheet.gap(sign), (low, high))
                    hidden += high - low > 1
                for anchor in anchors_of(plain.births):
                    self.assertEqual(sheet.where(anchor), plain_where(plain.births, row, anchor))
                for place in range(len(row) + 1):
                    for side in (0, 1):
                        anchor = sheet.anchor(place, side)
                        self.assertEqual((sheet.where(anchor), anchor), (place, anchor_at(tuple(row), place, side)))
                refused(self, BadPlace, {"at": len(row) + 1}, sheet.anchor, len(row) + 1, rng.randint(0, 1))
                self.assertEqual(state_of(sheet), before)
        self.assertGreater(hidden, 100)

    def test_moved_by_numbers_alone(self):
        """G5 for every anchor and every splice that is done at the place."""
        rng = rng_for("moved anchors")
        for _ in range(120):
            sheet, plain = Sheet("s"), PlainSheet()
            drawn_pair(rng, sheet, plain, rng.randint(1, 8))
            anchors = anchors_of(sheet.births)
            for _ in range(3):
                places = {anchor: sheet.where(anchor) for anchor in anchors}
                rounds = drawn_deed(rng, sheet.text(), splices=3)
                sheet.do(rounds)
                for anchor in anchors:
                    place = told = places[anchor]
                    for splices in rounds:
                        place = moved_place(place, anchor[2], splices)
                        for splice in reversed(splices):
                            told = moved_as_told(told, anchor[2], splice)
                    if stays_at_end(anchor):
                        place = told = 0 if anchor[:2] == HEAD else sheet.size()
                    self.assertEqual((sheet.where(anchor), sheet.where(anchor)), (place, told), anchor)

    def test_each_splice_at_each_place(self):
        for at in range(4):
            for cut in range(4 - at):
                for text in ("", "x", "xyz"):
                    if cut or text:
                        sheet = Sheet("s")
                        sheet.do((((0, 0, "abc"),),))
                        places = {anchor: sheet.where(anchor) for anchor in anchors_of(sheet.births)}
                        sheet.do((((at, cut, text),),))
                        for anchor, place in places.items():
                            if not stays_at_end(anchor):
                                self.assertEqual(sheet.where(anchor), moved_as_told(place, anchor[2], (at, cut, text)))
                            else:
                                self.assertEqual(sheet.where(anchor), 0 if anchor[:2] == HEAD else sheet.size())

    def test_same_places_by_any_road(self):
        """G7: where the same deeds stand, each anchor has the same place."""
        rng = rng_for("same places")
        met = 0
        for _ in range(80):
            sheet, plain = Sheet("s"), PlainSheet()
            drawn_pair(rng, sheet, plain, 10)
            seen = {}
            for node in range(len(plain.nodes)):
                sheet.go(node)
                places = [sheet.where(anchor) for anchor in anchors_of(sheet.births)]
                key = sheet.standing()
                met += key in seen
                self.assertEqual(seen.setdefault(key, (sheet.text(), places)), (sheet.text(), places))
        self.assertGreater(met, 50)


class TestMarks(unittest.TestCase):

    def test_set_and_drop(self):
        sheet = Sheet("s")
        sheet.do((((0, 0, "abc"),),))
        self.assertIsNone(sheet.set_mark("b", sheet.anchor(2, 0)))
        self.assertIsNone(sheet.set_mark(name="a", anchor=(0, 1, 1)))
        sheet.set_mark("a1", (0, 0, 1))
        self.assertEqual(sheet.marks, {"b": (1, 1, 0), "a": (0, 1, 1), "a1": (0, 0, 1)})
        self.assertEqual(sheet.mark_places(), (("a", 3), ("a1", 0), ("b", 2)))
        self.assertIs(type(sheet.mark_places()), tuple)
        sheet.set_mark("b", (1, 0, 1))
        self.assertEqual((sheet.mark_places(), sheet.drop_mark(name="a")), ((("a", 3), ("a1", 0), ("b", 0)), None))
        self.assertEqual((sheet.mark_places(), Sheet("t").mark_places()), ((("a1", 0), ("b", 0)), ()))

    def test_errors(self):
        sheet = Sheet("s")
        sheet.do((((0, 0, "abc"),),))
        sheet.set_mark("m", (1, 0, 0))
        before = state_of(sheet)
        for sign in ((2, 0), (1, 3), (0, 2), (-1, 0), (1, -1), (True, 0), (10 ** 9, 0), (1, True), (1, 10 ** 9)):
            for side in (0, 1):
                refused(self, NoSuch, {"what": "sign", "name": sign[0]}, sheet.set_mark, "m", sign + (side,))
                refused(self, NoSuch, {"what": "sign", "name": sign[0]}, sheet.set_mark, "n", sign + (side,))
        for name in ("n", "", "mm", "M"):
            refused(self, NoSuch, {"what": "mark", "name": name}, sheet.drop_mark, name)
        self.assertEqual(state_of(sheet), before)

    def test_behind_all_that_is_done(self):
        rng = rng_for("marks")
        for _ in range(80):
            sheet, plain = Sheet("s"), PlainSheet()
            drawn_pair(rng, sheet, plain, 3)
            marks = {}
            for _ in range(7):
                name = rng.choice(("a", "b", "c1", "d"))
                if rng.random() < 0.2 and name in marks:
                    sheet.drop_mark(name)
                    del marks[name]
                else:
                    marks[name] = rng.choice(anchors_of(plain.births))
                    sheet.set_mark(name, marks[name])
                drawn_pair(rng, sheet, plain, 1)
                row = plain.row()
                want = tuple((name, plain_where(plain.births, row, marks[name])) for name in sorted(marks))
                self.assertEqual((sheet.mark_places(), sheet.marks), (want, marks))
                self.assertEqual(sheet.trial().mark_places(), want)


if __name__ == "__main__":
    unittest.main()
