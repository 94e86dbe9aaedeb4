"""[12], [43] limits of sheets, each met exactly and one beyond it, in their sequence; inputs as long as may be."""

import unittest

from deedstand.errors import NoSuch, TooMuch
from deedstand.sheets import Sheet
from deedstand.textlines import rows_of, spot_of
from tests.test_sheets import refused, state_of
from tests.ways import plain_spliced, rng_for


def filled(gone, size, singles):
    """A sheet that put and cut chunks of these sizes, then has one chunk of a size, and many of one sign each."""
    sheet = Sheet("s")
    for many in gone:
        sheet.do((((0, 0, "a" * many),),))
        sheet.do((((0, many, ""),),))
    sheet.do((((0, 0, "b" * size),),))
    while singles:
        now = min(singles, 200)
        sheet.do((tuple((k, 0, "c") for k in range(now)),))
        singles -= now
    return sheet


def counts(sheet):
    return len(sheet.births) - 1, sum(len(text) for _, _, _, text in sheet.births), sheet.size()


def padded(sheet, nodes):
    """The sheet with so many nodes, at the place where it was."""
    place = sheet.place
    while len(sheet.nodes) < nodes:
        sheet.do_at(place, (((0, 1, ""),),))
    sheet.go(place)
    return sheet


ONE = (((0, 0, "x"),),)


class TestLimits(unittest.TestCase):

    def too_much(self, what, sheet, rounds):
        before = state_of(sheet)
        refused(self, TooMuch, {"what": what}, sheet.do, rounds)
        self.assertEqual(state_of(sheet), before)

    def test_chunks(self):
        sheet = filled((), 300, 898)
        self.assertEqual(counts(sheet), (899, 1198, 1198))
        self.too_much("chunks", sheet, (((0, 0, "x"), (1, 0, "y")),))
        self.too_much("chunks", sheet, ONE + ONE)
        # A splice that puts nothing is no chunk.
        self.assertEqual(sheet.do((((0, 0, "x"), (1, 1, "")), ((0, 1, ""),))), sheet.place)
        self.assertEqual(len(sheet.births), 901)
        self.too_much("chunks", sheet, ONE)
        self.assertEqual(sheet.do((((0, 1, ""),),)), sheet.place)

    def test_born(self):
        sheet = filled((4000, 4000, 4000, 4000), 3000, 0)
        self.assertEqual(counts(sheet), (5, 19000, 3000))
        self.too_much("born", sheet, (((0, 2000, "x" * 1001),),))
        self.too_much("born", sheet, (((0, 2000, "x" * 1000),), ((0, 0, "y"),)))
        sheet.do((((0, 2000, "x" * 1000),),))
        self.assertEqual(counts(sheet), (6, 20000, 2000))
        self.too_much("born", sheet, ONE)

    def test_text(self):
        sheet = filled((), 3800, 199)
        self.assertEqual(counts(sheet)[2], 3999)
        self.too_much("text", sheet, ONE + ONE)
        sheet.do(ONE)
        self.too_much("text", sheet, ONE)
        self.too_much("text", sheet, (((0, 1, "xy"),),))
        sheet.do((((0, 1, "z"),),))
        self.assertEqual(sheet.size(), 4000)

    def test_nodes(self):
        sheet = padded(filled((), 3, 0), 299)
        sheet.do(ONE)
        self.assertEqual((len(sheet.nodes), sheet.place), (300, 299))
        self.too_much("nodes", sheet, ONE)
        self.assertEqual((sheet.undo(), sheet.text(), sheet.go(299), sheet.text()), (1, "bbb", 299, "xbbb"))

    def test_sequence(self):
        full = padded(filled((4000,) * 4, 3105, 895), 299)
        self.assertEqual(counts(full), (900, 20000, 4000))
        self.too_much("chunks", full, ONE)
        self.too_much("nodes", padded(full.trial(), 300), ONE)
        full = padded(filled((4000,) * 4, 3106, 894), 299)
        self.assertEqual(counts(full), (899, 20000, 4000))
        self.too_much("born", full, ONE)
        self.too_much("nodes", padded(full.trial(), 300), ONE)
        full = padded(filled((4000,) * 3 + (3999,), 3106, 894), 299)
        self.assertEqual(counts(full), (899, 19999, 4000))
        self.too_much("text", full, ONE)
        self.too_much("born", full, (((0, 0, "xy"),),))
        self.too_much("nodes", padded(full.trial(), 300), ONE)
        self.assertEqual(full.do((((0, 1, "x"),),)), 299)

    def test_turned_text(self):
        # What comes back by a turn counts for the text, though nothing is put.
        sheet = Sheet("s")
        sheet.do((((0, 0, "a" * 2000),),))
        sheet.do((((0, 1999, ""),),))
        sheet.do((((1, 0, "b" * 2000),),))
        trial = sheet.trial()
        self.assertEqual((trial.size(), trial.strike(2), trial.size()), (2001, 4, 4000))
        sheet.do((((2001, 0, "c"),),))
        before = state_of(sheet)
        for call, what in ((sheet.strike, 2), (sheet.fell, 2), (sheet.turn, (2,))):
            refused(self, TooMuch, {"what": "text"}, call, what)
        self.assertEqual((state_of(sheet), sheet.size(), sheet.can_turn(2)), (before, 2002, None))

    def test_marks(self):
        sheet = Sheet("s")
        sheet.do(ONE)
        for k in range(40):
            self.assertIsNone(sheet.set_mark(f"m{k}", (1, 0, 0)))
        before = state_of(sheet)
        refused(self, TooMuch, {"what": "marks"}, sheet.set_mark, "n", (1, 0, 0))
        refused(self, NoSuch, {"what": "sign", "name": 2}, sheet.set_mark, "n", (2, 0, 0))
        self.assertEqual(state_of(sheet), before)
        sheet.set_mark("m7", (0, 1, 1))
        self.assertEqual((sheet.marks["m7"], len(sheet.marks)), ((0, 1, 1), 40))
        sheet.drop_mark("m0")
        sheet.set_mark("n", (0, 0, 0))
        refused(self, TooMuch, {"what": "marks"}, sheet.set_mark, "m0", (1, 0, 0))


class TestLongest(unittest.TestCase):

    def test_one_line_of_deeds(self):
        """Three hundred nodes, nine hundred chunks, a text of 4,000 signs."""
        sheet, rng = Sheet("s", choices=(-1, 0) * 450), rng_for("long sheets")
        text = "abcdefghi\n" * 390
        sheet.do((((0, 0, text),),))
        texts = ["", text]
        while len(sheet.nodes) < 299:
            places = sorted(rng.sample(range(0, len(text) - 5, 5), 3))
            least = 0 if len(text) < 3900 else 4
            splices = tuple((at, rng.randint(least, 5), rng.choice(("xy\n", "z", "1234567"))) for at in places)
            text = plain_spliced(text, splices)
            sheet.do((splices,))
            texts.append(text)
        self.assertEqual((sheet.text(), len(sheet.births)), (text, 893))
        for node in (0, 1, 150, 298):
            self.assertEqual(sheet.text_at(node), texts[node])
        self.assertEqual((sheet.path(298), sheet.standing()), (tuple(range(299)), tuple(range(1, 299))))
        self.assertEqual(sheet.road(298, 0), tuple(("up", k) for k in range(298, 0, -1)))
        turnable = sheet.turnable()
        for deed in (1, 2, 100, 200, 298):
            self.assertEqual(deed in turnable, sheet.touching(deed) == ())
            self.assertEqual(deed in turnable, sheet.paper((deed,)) is None)
        deeds = sheet.trial().fell(2)
        self.assertIn(2, deeds)
        self.assertEqual(sheet.turn(deeds), 299)
        self.assertEqual(sheet.standing(), tuple(k for k in range(1, 299) if k not in deeds))
        self.assertEqual((sheet.spot(len(sheet.text())), sheet.row_many()),
                         (spot_of(sheet.text(), sheet.size()), len(rows_of(sheet.text()))))
        self.assertEqual((sheet.undo(), sheet.text()), (298, text))
        tree = sheet.weave.tree
        sheet.tidy()
        self.assertEqual((sheet.text(), sheet.turnable(), sheet.weave.tree == tree), (text, turnable, False))

    def test_typed_and_turned(self):
        """A chain in which each deed lies within the one before; all fall with the first one that was cut."""
        sheet = Sheet("s")
        sheet.do((((0, 0, "ab"),),))
        sheet.do((((1, 1, ""),),))
        for k in range(296):
            sheet.do((((1, 0, "x"),),) if k < 200 else (((1, 1, "y"),),))
        self.assertEqual(len(sheet.nodes), 299)
        self.assertEqual(sheet.text(), "ay" + "x" * 199)
        # Neither 2, nor a y that a later y took away, can be struck alone.
        self.assertEqual(sheet.turnable(), (1, *range(3, 203), 298))
        # When the last y falls, the one before it comes back, which then falls too, and so on, in 98 rounds.
        self.assertEqual((sheet.fell(2), sheet.text()), (tuple(range(2, 299)), "ab"))

    def test_sixty_rounds(self):
        sheet = Sheet("s")
        rounds = (((0, 0, "abc"),),) + (tuple((k, 0, "xy\n"[k]) for k in range(3)),) * 59
        text = ""
        for splices in rounds:
            text = plain_spliced(text, splices)
        self.assertEqual((sheet.do(rounds), sheet.text(), len(sheet.births)), (1, text, 179))
        self.assertEqual((sheet.do((tuple((k, 1, "z") for k in range(180)),)), sheet.text()), (2, "z" * 180))
        self.assertEqual((sheet.strike(1), sheet.text(), sheet.strike(2), sheet.text()), (3, "z" * 180, 4, ""))

    def test_many_cuts(self):
        """Thousands of pieces; all that was cut comes back at once."""
        sheet = Sheet("s")
        text = "abcde" * 800
        sheet.do((((0, 0, text),),))
        for k in range(10):
            sheet.do((tuple((at, 1, "") for at in range(k, k + 400 - k, 2)),))
        deeds = tuple(range(2, 12))
        self.assertEqual(sheet.turnable(), tuple(range(1, 12)))
        self.assertEqual((sheet.turn(deeds), sheet.text()), (12, text))


if __name__ == "__main__":
    unittest.main()
