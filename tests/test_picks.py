"""[47] picks held by anchors, [48] picks and stretches that are joined, G9."""

import unittest

from deedstand.errors import BadPlace
from deedstand.pickmarks import pick_held, pick_told
from deedstand.settling import joined_stretches, settled_picks
from deedstand.sheets import Sheet
from tests.plainsheet import PlainSheet, drawn_pair, plain_where
from tests.test_sheets import refused, state_of
from tests.ways import rng_for


def sheet_with(text):
    sheet = Sheet("s")
    if text:
        sheet.do((((0, 0, text),),))
    return sheet


def plain_held(row, tail, head):
    """[8]: a caret at its place with side 0; a selection at low with side 1, at high with side 0."""
    ahead, behind = [(0, 0)] + list(row), list(row) + [(0, 1)]
    if tail == head:
        return (ahead[tail] + (0,),) * 2
    low, high = behind[min(tail, head)] + (1,), ahead[max(tail, head)] + (0,)
    return (low, high) if tail < head else (high, low)


class TestHeld(unittest.TestCase):

    def test_example(self):
        sheet = sheet_with("abcd")
        held = pick_held(sheet, 3, 1)
        self.assertEqual((held, sheet.do((((1, 2, "XY"),),)), pick_told(sheet, held)),
                         (((1, 2, 0), (1, 1, 1)), 2, (1, 1)))
        self.assertEqual((sheet.text(), sheet.where((1, 1, 1)), sheet.where((1, 2, 0))), ("aXYd", 3, 1))

    def test_by_name(self):
        sheet = sheet_with("ab")
        held = pick_held(sheet=sheet, tail=0, head=2)
        self.assertEqual((held, pick_told(sheet=sheet, held=held)), (((1, 0, 1), (1, 1, 0)), (0, 2)))

    def test_every_pick(self):
        rng = rng_for("every pick")
        crossed = 0
        for _ in range(80):
            sheet, plain = Sheet("s"), PlainSheet()
            drawn_pair(rng, sheet, plain, rng.randint(0, 7))
            row, before = plain.row(), state_of(sheet)
            size = len(row)
            held = {(tail, head): pick_held(sheet, tail, head) for tail in range(size + 1) for head in range(size + 1)}
            for pick, pair in held.items():
                self.assertEqual((pair, pick_told(sheet, pair)), (plain_held(row, *pick), pick))
                self.assertIs(type(pair), tuple)
            self.assertEqual(state_of(sheet), before)
            drawn_pair(rng, sheet, plain, 3)
            row = plain.row()
            for (tail, head), pair in held.items():
                places = [plain_where(plain.births, row, anchor) for anchor in pair]
                low, high = places if tail <= head else places[::-1]
                if low > high:
                    crossed += 1
                    places = [high, high]
                self.assertEqual(pick_told(sheet, pair), tuple(places))
        self.assertGreater(crossed, 50)

    def test_bad_places(self):
        for text in ("", "abc"):
            sheet = sheet_with(text)
            size = len(text)
            for wrong in (size + 1, size + 5, 10 ** 9):
                refused(self, BadPlace, {"at": wrong}, pick_held, sheet, wrong, size)
                refused(self, BadPlace, {"at": wrong}, pick_held, sheet, size, wrong)
                refused(self, BadPlace, {"at": wrong}, pick_held, sheet, wrong, wrong + 1)
                refused(self, BadPlace, {"at": wrong + 1}, pick_held, sheet, wrong + 1, wrong)


def plain_settled(picks):
    """Groups found by joining any two that touch as [8] tells, until none do."""
    def low_high(pick):
        return (min(pick), max(pick))

    groups = [[pick] for pick in sorted(picks, key=low_high)]
    found = []
    for group in groups:
        pick = group[0]
        if found:
            high = max(max(other) for other in found[-1])
            is_caret = len({place for other in found[-1] for place in other}) == 1
            if min(pick) < high or (min(pick) == high and (is_caret or pick[0] == pick[1])):
                found[-1].append(pick)
                continue
        found.append(group)
    result = []
    for group in found:
        low, high = min(min(pick) for pick in group), max(max(pick) for pick in group)
        selections = [pick for pick in group if pick[0] != pick[1]]
        is_back = bool(selections) and all(head < tail for tail, head in selections)
        result.append((high, low) if is_back else (low, high))
    return tuple(result)


def selected(picks):
    return {sign for tail, head in picks for sign in range(min(tail, head), max(tail, head))}


class TestSettled(unittest.TestCase):

    def test_example(self):
        self.assertEqual(settled_picks(((5, 3), (4, 7), (9, 9), (9, 8), (9, 10))), ((3, 7), (9, 8), (9, 10)))
        self.assertEqual(settled_picks(picks=((5, 3),)), ((5, 3),))

    def test_by_hand(self):
        for picks, want in (
            (((0, 0), (0, 0)), ((0, 0),)),
            (((0, 2), (2, 2)), ((0, 2),)),
            (((2, 0), (2, 2)), ((2, 0),)),
            (((0, 0), (0, 2)), ((0, 2),)),
            (((0, 0), (2, 0)), ((2, 0),)),
            (((0, 2), (2, 4)), ((0, 2), (2, 4))),
            (((4, 2), (2, 0)), ((2, 0), (4, 2))),
            (((0, 2), (2, 2), (2, 4)), ((0, 2), (2, 4))),
            (((0, 4), (3, 1)), ((0, 4),)),
            (((4, 0), (3, 1)), ((4, 0),)),
            (((4, 0), (1, 3)), ((0, 4),)),
            (((4, 0), (2, 2)), ((4, 0),)),
            (((3, 0), (5, 2), (7, 4)), ((7, 0),)),
            (((3, 0), (2, 5), (7, 4)), ((0, 7),)),
            (((5, 5), (0, 9)), ((0, 9),)),
            (((1, 1), (0, 0)), ((0, 0), (1, 1))),
            (((0, 5), (0, 5), (5, 0)), ((0, 5),)),
        ):
            self.assertEqual(settled_picks(picks), want, picks)
            self.assertEqual(settled_picks(picks[::-1]), want, picks)

    def test_all_small(self):
        """All tuples of up to three picks of four places, in any sequence."""
        places = [(tail, head) for tail in range(4) for head in range(4)]
        for one in places:
            for other in places:
                self.check((one, other))
                for third in places:
                    self.check((one, other, third))

    def test_drawn(self):
        rng = rng_for("settled")
        for _ in range(1500):
            top = rng.choice((4, 12, 40, 4000))
            self.check(tuple((rng.randint(0, top), rng.randint(0, top)) if rng.random() < 0.7
                             else (rng.randint(0, top),) * 2 for _ in range(rng.randint(1, 12))))

    def check(self, picks):
        got = settled_picks(picks)
        self.assertIs(type(got), tuple)
        self.assertEqual(got, plain_settled(picks), picks)
        self.assertEqual(settled_picks(got), got)
        self.assertEqual(selected(got), selected(picks))
        self.assertEqual(list(got), sorted(got, key=min))
        for one, other in zip(got, got[1:]):
            self.assertLessEqual(max(one), min(other))
            if one[0] == one[1] or other[0] == other[1]:
                self.assertLess(max(one), min(other))

    def test_longest(self):
        picks = tuple((k, k + 1) for k in range(0, 4000, 3))
        self.assertEqual(settled_picks(picks[::-1]), picks)
        self.assertEqual(settled_picks(tuple((k, 0) for k in range(1, 2000))), ((1999, 0),))


class TestStretches(unittest.TestCase):

    def test_by_hand(self):
        self.assertEqual(joined_stretches(((4, 6), (0, 2), (2, 3), (5, 9))), ((0, 3), (4, 9)))
        self.assertEqual(joined_stretches(stretches=()), ())
        self.assertEqual(joined_stretches(((3, 4), (1, 2))), ((1, 2), (3, 4)))
        self.assertEqual(joined_stretches(((0, 9), (2, 3), (3, 4))), ((0, 9),))
        self.assertEqual(joined_stretches(((1, 2), (1, 2), (1, 5))), ((1, 5),))

    def test_drawn(self):
        rng = rng_for("joined")
        for _ in range(2000):
            stretches = []
            for _ in range(rng.randint(0, 7)):
                low = rng.randint(0, 15)
                stretches.append((low, low + rng.randint(1, 4)))
            got = joined_stretches(tuple(stretches))
            self.assertIs(type(got), tuple)
            self.assertEqual(selected(got), selected(stretches))
            for one, other in zip(got, got[1:]):
                self.assertLess(one[1], other[0])
            self.assertEqual(joined_stretches(got), got)


if __name__ == "__main__":
    unittest.main()
