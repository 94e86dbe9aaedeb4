"""[43] to [46] sheets: deeds, undo, redo, trials, reading, and every error; G3, G7, G8."""

import unittest

from deedstand.errors import BadPlace, BadSplice, NoSuch, TooMuch, Unsettled
from deedstand.hopping import told_ahead
from deedstand.judges import choices_fit
from deedstand.nodeways import replayed
from deedstand.refusals import two_choices
from deedstand.settledrows import row_of, text_of
from deedstand.sheetbase import SheetBase
from deedstand.sheetmarks import SheetMarks
from deedstand.sheets import Sheet
from deedstand.splicing import check_round
from deedstand.textlines import place_of, rows_of, spot_of
from tests.plainsheet import PlainSheet, drawn_deed, drawn_pair, flipped, letters
from tests.ways import AB, AB_CUTS, all_signs, plain_spliced, rng_for

DEEDS = ((((0, 0, "ab"),),), (((1, 1, ""),),), (((1, 0, "X"),),))
ROOT = ("root",)


def refused(case, error, fields, call, *args, **more):
    with case.assertRaises(error) as caught:
        call(*args, **more)
    case.assertEqual(vars(caught.exception), fields)
    for field, value in fields.items():
        case.assertIs(type(getattr(caught.exception, field)), type(value))


def state_of(sheet):
    """All that can be seen of a sheet's fields."""
    return (sheet.plain(), dict(sheet.cuts), dict(sheet.marks), sheet.text(), sheet.standing(), sheet.row_signs())


class TestExamples(unittest.TestCase):

    def test_sheet(self):
        sheet = Sheet("s")
        got = sheet.do(DEEDS[0]), sheet.do(DEEDS[1]), sheet.do(DEEDS[2]), sheet.turnable(), sheet.gap((1, 1))
        self.assertEqual(got, (1, 2, 3, (1, 3), (1, 2)))
        got = sheet.fell(2), sheet.text(), sheet.undo(), sheet.strike(1), sheet.text(), sheet.road(5, 4)
        self.assertEqual(got, ((2, 3), "ab", 3, 5, "X", (("up", 5), ("down", 4))))

    def test_ab(self):
        sheet = Sheet("s")
        for rounds in DEEDS:
            sheet.do(rounds)
        self.assertEqual((sheet.births, sheet.cuts), (AB, AB_CUTS))
        self.assertEqual((sheet.text(), sheet.row_signs(), sheet.standing()), ("aX", ((1, 0), (2, 0)), (1, 2, 3)))
        refused_pair = set(sheet.can_turn(2))
        self.assertEqual(refused_pair, {(1, 1), (2, 0)})
        with self.assertRaises(Unsettled):
            sheet.strike(2)
        self.assertEqual(sheet.touching(2), (3,))
        self.assertEqual(sheet.do((((1, 1, ""),),)), 4)
        self.assertEqual((sheet.turnable(), sheet.strike(2), sheet.text()), ((1, 2, 3, 4), 5, "ab"))
        with self.assertRaises(Unsettled):
            sheet.strike(4)
        sheet.go(4)
        self.assertEqual((sheet.strike(4), sheet.text()), (6, "aX"))
        with self.assertRaises(Unsettled):
            sheet.strike(2)
        sheet.go(3)
        self.assertEqual((sheet.gap((1, 1)), sheet.where((1, 1, 0)), sheet.where((1, 1, 1))), ((1, 2), 1, 2))


class TestFields(unittest.TestCase):

    def test_new(self):
        for kind in (SheetBase, SheetMarks, Sheet):
            sheet = kind("s")
            self.assertIs(type(sheet), kind)
            self.assertEqual((sheet.name, sheet.births, sheet.cuts, sheet.nodes, sheet.place, sheet.marks, sheet.tie),
                             ("s", ((0, (0, 0), (0, 1), ""),), {}, (ROOT,), 0, {}, None))
            self.assertEqual((sheet.text(), sheet.size(), sheet.row_many(), sheet.row(0), sheet.row_signs()),
                             ("", 0, 1, "", ()))
            self.assertEqual((sheet.standing(), list(sheet), sheet.path(0), sheet.children(0)), ((), [ROOT], (0,), ()))
            self.assertIsNone(sheet.parent(0))
            self.assertIsNone(sheet.tidy())
            with self.assertRaises(TypeError):
                kind("s", (0,))
        self.assertTrue(issubclass(Sheet, SheetMarks) and issubclass(SheetMarks, SheetBase))
        self.assertEqual(Sheet(name="t", choices=(0, -1)).name, "t")
        self.assertEqual(Sheet("s").plain(), ("s", (ROOT,), ((0, (0, 0), (0, 1), ""),), 0, (), None))

    def test_own_fields(self):
        one, other = Sheet("a"), Sheet("b")
        one.do(DEEDS[0])
        one.set_mark("m", (1, 0, 0))
        self.assertEqual((other.nodes, other.cuts, other.marks, other.births), ((ROOT,), {}, {}, AB[:1]))

    def test_iterating(self):
        sheet = Sheet("s")
        for rounds in DEEDS:
            sheet.do(rounds)
        sheet.strike(3)
        nodes = [ROOT] + [("edit", k, DEEDS[k]) for k in range(3)] + [("turn", 3, (3,))]
        self.assertEqual((list(sheet), list(sheet), sheet.nodes), (nodes, nodes, tuple(nodes)))
        self.assertEqual([node[0] for node in sheet], ["root", "edit", "edit", "edit", "turn"])

    def test_plain_and_tie(self):
        sheet = Sheet("s")
        sheet.do(DEEDS[0])
        sheet.set_mark("b", (1, 0, 0))
        sheet.set_mark("a1", (0, 1, 1))
        sheet.tie = ("f", 0, 2)
        want = ("s", (ROOT, ("edit", 0, DEEDS[0])), AB[:2], 1, (("a1", (0, 1, 1)), ("b", (1, 0, 0))), ("f", 0, 2))
        self.assertEqual(sheet.plain(), want)
        self.assertIs(type(sheet.plain()), tuple)
        trial = sheet.trial()
        self.assertEqual(trial.plain(), want)
        trial.tie = None
        trial.drop_mark("b")
        trial.do(DEEDS[1])
        self.assertEqual(sheet.plain(), want)
        self.assertEqual((trial.tie, trial.marks, trial.text()), (None, {"a1": (0, 1, 1)}, "a"))


class TestWays(unittest.TestCase):

    def sheet(self):
        """Node 1 with the children 2, 3 and 4."""
        sheet = Sheet("s")
        sheet.do((((0, 0, "ab"),),))
        for text in ("x", "y", "z"):
            sheet.do_at(1, (((2, 0, text),),))
        return sheet

    def test_undo_redo_go(self):
        sheet = self.sheet()
        self.assertEqual((sheet.place, sheet.undo(), sheet.place, sheet.text()), (4, 1, 1, "ab"))
        self.assertEqual((sheet.redo(), sheet.text(), sheet.undo()), (4, "abz", 1))
        self.assertEqual((sheet.redo(child=0), sheet.text(), sheet.undo()), (2, "abx", 1))
        self.assertEqual((sheet.redo(child=1), sheet.text(), sheet.undo()), (3, "aby", 1))
        self.assertEqual((sheet.redo(child=None), sheet.undo(), sheet.undo(), sheet.text()), (4, 1, 0, ""))
        self.assertEqual((sheet.redo(), sheet.go(node=3), sheet.text(), sheet.standing()), (1, 3, "aby", (1, 3)))
        self.assertEqual((sheet.go(3), sheet.go(0), sheet.standing()), (3, 0, ()))
        with self.assertRaises(TypeError):
            sheet.redo(0)

    def test_no_such_node(self):
        sheet = self.sheet()
        sheet.go(0)
        before = state_of(sheet)
        refused(self, NoSuch, {"what": "node", "name": 0}, sheet.undo)
        for wrong in (5, 10 ** 9, -1, True, False, None, "0", (0,), 0.0):
            for call in (sheet.go, sheet.text_at, sheet.standing_at, sheet.parent, sheet.children, sheet.path):
                refused(self, NoSuch, {"what": "node", "name": wrong}, call, wrong)
            refused(self, NoSuch, {"what": "node", "name": wrong}, sheet.road, wrong, 9)
            refused(self, NoSuch, {"what": "node", "name": wrong}, sheet.road, 0, wrong)
            for rounds in (DEEDS[0], (), ((),), ((None,),), (((0, 0, "a"),),) * 61):
                refused(self, NoSuch, {"what": "node", "name": wrong}, sheet.do_at, wrong, rounds)
        self.assertEqual(state_of(sheet), before)

    def test_no_such_child(self):
        sheet = self.sheet()
        refused(self, NoSuch, {"what": "child", "name": 0}, sheet.redo)
        refused(self, NoSuch, {"what": "child", "name": 0}, sheet.redo, child=None)
        refused(self, NoSuch, {"what": "child", "name": 0}, sheet.redo, child=0)
        sheet.undo()
        for wrong in (3, 4, 10 ** 9, -1, True, False, "0", (0,)):
            refused(self, NoSuch, {"what": "child", "name": wrong}, sheet.redo, child=wrong)
        self.assertEqual((sheet.place, sheet.redo(child=2)), (1, 4))

    def test_by_name(self):
        sheet = Sheet("s")
        self.assertEqual((sheet.do(rounds=DEEDS[0]), sheet.do_at(parent=1, rounds=DEEDS[1])), (1, 2))
        self.assertEqual((sheet.text_at(node=1), sheet.standing_at(node=2)), ("ab", (1, 2)))
        self.assertEqual((sheet.parent(node=2), sheet.children(node=0), sheet.path(node=2)), (1, (1,), (0, 1, 2)))
        self.assertEqual((sheet.road(one=2, other=1), sheet.row(line=0), sheet.spot(place=1)),
                         ((("up", 2),), "a", (0, 1)))
        self.assertEqual((sheet.place_at(line=0, column=9), sheet.stretch(low=0, high=1)), (1, "a"))


class TestDrawn(unittest.TestCase):

    def test_against_plain_sheets(self):
        rng = rng_for("plain sheets")
        kinds = {"edit": 0, "turn": 0}
        for _ in range(120):
            sheet, plain = Sheet("s", choices=rng.choice(((), (-1,) * 40, (3, -2, 1, 10 ** 9, 0, 5)))), PlainSheet()
            texts = [""]
            for _ in range(rng.randint(1, 10)):
                drawn_pair(rng, sheet, plain, 1)
                if len(plain.nodes) > len(texts):
                    texts.append(plain.text())
                    kinds[plain.nodes[-1][0]] += 1
                if rng.random() < 0.2:
                    before = state_of(sheet)
                    self.assertIsNone(sheet.tidy())
                    self.assertEqual(state_of(sheet), before)
                self.check_fields(sheet, plain)
                self.check_reading(sheet, plain.text())
            self.check_nodes(sheet, plain, texts)
        self.assertTrue(min(kinds.values()) > 100, kinds)

    def check_fields(self, sheet, plain):
        self.assertEqual((sheet.births, sheet.cuts, sheet.nodes, sheet.place),
                         (plain.births, plain.cuts, tuple(plain.nodes), plain.place))
        self.assertEqual((type(sheet.births), type(sheet.nodes), type(sheet.cuts)), (tuple, tuple, dict))
        self.assertEqual(sheet.row_signs(), tuple(plain.row()))
        stand = plain.stand()
        self.assertEqual(sheet.standing(), tuple(k for k in range(len(plain.nodes)) if stand >> k & 1))
        self.assertEqual(sheet.row_signs(), row_of(sheet.births, sheet.cuts, stand))
        self.assertEqual(sheet.text(), text_of(sheet.births, sheet.cuts, stand))
        for _, left, right, _ in sheet.births[1:]:
            self.assertTrue(told_ahead(sheet.births, left, right))

    def check_reading(self, sheet, text):
        self.assertEqual((sheet.text(), sheet.size(), sheet.row_many()), (text, len(text), text.count("\n") + 1))
        for line, row in enumerate(rows_of(text)):
            self.assertEqual(sheet.row(line), row)
            for column in (0, 1, len(row), 99):
                self.assertEqual(sheet.place_at(line, column), place_of(text, line, column))
        for place in range(len(text) + 1):
            self.assertEqual(sheet.spot(place), spot_of(text, place))
            self.assertEqual((sheet.stretch(place, len(text)), sheet.stretch(0, place)), (text[place:], text[:place]))
        lines = text.count("\n") + 1
        refused(self, BadPlace, {"at": lines}, sheet.row, lines)
        refused(self, BadPlace, {"at": lines + 3}, sheet.place_at, lines + 3, 0)
        refused(self, BadPlace, {"at": len(text) + 1}, sheet.spot, len(text) + 1)
        refused(self, BadPlace, {"at": len(text) + 1}, sheet.stretch, len(text) + 1, 0)
        refused(self, BadPlace, {"at": len(text) + 1}, sheet.stretch, 0, len(text) + 1)

    def check_nodes(self, sheet, plain, texts):
        """The text, row and standing deeds of each node are what they were when it was made."""
        before = state_of(sheet)
        for node, text in enumerate(texts):
            self.assertEqual((sheet.text_at(node), letters(plain.births, plain.row_at(node))), (text, text))
            stand = plain.stand_at(node)
            standing = tuple(k for k in range(len(plain.nodes)) if stand >> k & 1)
            self.assertEqual(sheet.standing_at(node), standing)
            self.assertEqual((sheet.path(node), sheet.parent(node)),
                             (tuple(plain.path(node)), plain.nodes[node][1] if node else None))
            children = tuple(k for k in range(1, len(plain.nodes)) if plain.nodes[k][1] == node)
            self.assertEqual(sheet.children(node), children)
            parent = sheet.parent(node)
            if sheet.nodes[node][0] == "edit":
                want = sheet.text_at(parent)
                for splices in sheet.nodes[node][2]:
                    want = plain_spliced(want, splices)
                self.assertEqual(text, want)
            self.assertIn(replayed(sheet.nodes, node), (None, text))
            for other in range(len(texts)):
                here, there = plain.path(node), plain.path(other)
                up = [("up", k) for k in reversed(here) if k not in there]
                self.assertEqual(sheet.road(node, other), tuple(up + [("down", k) for k in there if k not in here]))
        self.assertEqual(state_of(sheet), before)
        for node, text in enumerate(texts):
            trial = sheet.trial()
            self.assertEqual((trial.go(node), trial.text(), trial.standing()), (node, text, sheet.standing_at(node)))

    def test_undo_directly_after(self):
        rng = rng_for("undo directly")
        for _ in range(60):
            sheet, plain = Sheet("s"), PlainSheet()
            drawn_pair(rng, sheet, plain, rng.randint(1, 8))
            anchors = [sign + (side,) for sign in all_signs(sheet.births) for side in (0, 1)]
            before = sheet.place, sheet.text(), sheet.standing(), [sheet.where(anchor) for anchor in anchors]
            if rng.random() < 0.5:
                sheet.do(drawn_deed(rng, sheet.text()))
            else:
                for deed in sheet.standing()[:1]:
                    sheet.fell(deed)
            if sheet.place != before[0]:
                sheet.undo()
            after = sheet.place, sheet.text(), sheet.standing(), [sheet.where(anchor) for anchor in anchors]
            self.assertEqual(after, before)

    def test_same_deeds_same_texts(self):
        """G7: where the same deeds stand, all is the same, by whatever road."""
        rng = rng_for("same deeds")
        met = 0
        for _ in range(120):
            sheet, plain = Sheet("s"), PlainSheet()
            drawn_pair(rng, sheet, plain, 8)
            for deeds in ((1,), (2,), (1, 2)):
                trial = sheet.trial()
                if deeds[-1] in plain.edits() and deeds[0] in plain.edits() and not plain.untold_by(deeds):
                    trial.turn(deeds)
                    drawn = trial.text(), trial.row_signs()
                    trial.turn(deeds)
                    self.assertEqual((trial.text(), trial.standing(), trial.row_signs()),
                                     (sheet.text(), sheet.standing(), sheet.row_signs()))
                    for deed in reversed(deeds):
                        if trial.can_turn(deed) is None:
                            trial.turn((deed,))
                    if trial.standing() == tuple(sorted(set(sheet.standing()) ^ set(deeds))):
                        met += 1
                        self.assertEqual((trial.text(), trial.row_signs()), drawn)
        self.assertGreater(met, 100)

    def test_choices_and_shapes(self):
        """G8: sheets that differ only in choices or in the shape of their trees are told apart by nothing."""
        rng = rng_for("choices")
        unlike = 0
        for _ in range(60):
            sheets = [Sheet("s", choices=choices) for choices in ((), (-1,) * 60, tuple(rng.randint(-9, 9)
                                                                                      for _ in range(30)))]
            sheets.append(Sheet("s"))
            plain = PlainSheet()
            for _ in range(9):
                drawn_pair(rng, sheets[0], plain, 1)
                for sheet in sheets[1:]:
                    self.follow(sheet, plain)
                sheets[3].tidy()
                seen = [(sheet.plain(), sheet.cuts, sheet.text(), sheet.row_signs(), sheet.turnable(),
                         [sheet.can_turn(deed) is None for deed in plain.edits()],
                         [sheet.touching(deed) for deed in plain.edits()],
                         [sheet.trial().fell(deed) for deed in sheet.standing()]) for sheet in sheets]
                for other in seen[1:]:
                    self.assertEqual(other, seen[0])
            unlike += len({repr(sheet.weave.tree) for sheet in sheets}) > 2
        self.assertGreater(unlike, 20)

    def follow(self, sheet, plain):
        if len(sheet.nodes) < len(plain.nodes):
            kind, parent, what = plain.nodes[-1]
            if kind == "edit":
                sheet.do_at(parent, what)
            else:
                sheet.go(parent)
                sheet.turn(what)
        sheet.go(plain.place)

    def test_papers(self):
        rng = rng_for("papers of sheets")
        some = 0
        for _ in range(60):
            sheet, plain = Sheet("s"), PlainSheet()
            drawn_pair(rng, sheet, plain, 8)
            stand = plain.stand()
            for deed in plain.edits():
                paper = sheet.paper((deed,))
                after = flipped(stand, (deed,))
                self.assertEqual(paper is None, sheet.can_turn(deed) is None)
                self.assertEqual(paper is None, two_choices(sheet.births, sheet.cuts, after) is None)
                self.assertEqual(paper is None, sheet.touching(deed) == ())
                if paper is not None:
                    some += 1
                    self.assertTrue(choices_fit(sheet.births, sheet.cuts, after, paper))
        self.assertGreater(some, 50)

    def test_trials(self):
        rng = rng_for("trials")
        for _ in range(40):
            sheet, plain = Sheet("s", choices=(-1, 2, 0, -3)), PlainSheet()
            drawn_pair(rng, sheet, plain, 6)
            before, tree = state_of(sheet), sheet.weave.tree
            trial = sheet.trial()
            self.assertIs(type(trial), Sheet)
            self.assertEqual((state_of(trial), trial.choices, trial.weave.tree), (before, sheet.choices, tree))
            drawn_pair(rng, trial, plain, 4)
            trial.set_mark("m", (0, 0, 0))
            self.assertEqual((state_of(sheet), sheet.weave.tree), (before, tree))
            after = state_of(trial)
            sheet.do((((0, 0, "other"),),))
            sheet.set_mark("n", (0, 0, 0))
            self.assertEqual(state_of(trial), after)


class TestDeedErrors(unittest.TestCase):

    def setUp(self):
        self.sheet = Sheet("s")
        self.sheet.do((((0, 0, "abcd"),),))
        self.before = state_of(self.sheet)

    def tearDown(self):
        self.assertEqual(state_of(self.sheet), self.before)

    def test_empty(self):
        refused(self, BadSplice, {"at": -1}, self.sheet.do, ())
        refused(self, BadSplice, {"at": -1}, self.sheet.do, ((),))
        refused(self, BadSplice, {"at": -1}, self.sheet.do, (((0, 1, ""),), ()))
        refused(self, BadSplice, {"at": 0}, self.sheet.do, (((9, 1, ""),), ()))

    def test_splices(self):
        wrong = (((0, 0, ""),), ((5, 0, "x"),), ((0, 5, ""),), ((1, 2, "a"), (2, 1, "b")), ((1, 0, "a"), (1, 0, "b")),
                 (None,), ((True, 0, "a"),), ((0, 1, "\t"),), ([0, 1, ""],), ((0, 1),), ((0, -1, "a"),), ((0, 0, 5),),
                 ((0, 0, "%"),), ((2, 1, ""), (1, 1, "")))
        for splices in wrong:
            with self.assertRaises(BadSplice) as told:
                check_round(4, splices)
            refused(self, BadSplice, {"at": told.exception.at}, self.sheet.do, (splices,))
            refused(self, BadSplice, {"at": told.exception.at}, self.sheet.do, (((0, 1, "z"),), splices))
            refused(self, BadSplice, {"at": told.exception.at}, self.sheet.do_at, 1, (splices, ()))
        # Each round is looked at on the text that the one before leaves.
        refused(self, BadSplice, {"at": 0}, self.sheet.do, (((0, 4, ""),), ((0, 1, ""),)))
        refused(self, BadSplice, {"at": 1}, self.sheet.do, (((0, 2, "x"),), ((2, 1, ""), (4, 0, "y"))))
        refused(self, BadSplice, {"at": 0}, self.sheet.do_at, 0, (((0, 1, ""),),))
        self.assertEqual(self.sheet.trial().do((((0, 0, "xy"),), ((6, 0, "z"),))), 2)

    def test_rounds_and_splices(self):
        one = ((0, 0, "x"),)
        refused(self, TooMuch, {"what": "rounds"}, self.sheet.do, (one,) * 61)
        refused(self, TooMuch, {"what": "rounds"}, self.sheet.do, ((),) * 61)
        refused(self, TooMuch, {"what": "rounds"}, self.sheet.do, (one * 4,) * 61)
        many = tuple((k, 0, "x") for k in range(5))
        self.assertEqual(self.sheet.trial().do((one,) * 60), 2)
        self.assertEqual(self.sheet.trial().do((many,) * 40), 2)
        refused(self, TooMuch, {"what": "splices"}, self.sheet.do, (many,) * 40 + (one,))
        refused(self, TooMuch, {"what": "splices"}, self.sheet.do, ((None,) * 201,))
        refused(self, BadSplice, {"at": 0}, self.sheet.do, ((None,) * 200,))

    def test_text(self):
        trial = self.sheet.trial()
        self.assertEqual(trial.do((((4, 0, "x" * 3996),),)), 2)
        after = state_of(trial)
        refused(self, TooMuch, {"what": "text"}, trial.do, (((0, 0, "y"),),))
        self.assertEqual(state_of(trial), after)
        refused(self, TooMuch, {"what": "text"}, self.sheet.do, (((4, 0, "x" * 3997),),))
        # Only the text after the deed counts.
        self.assertEqual(trial.do((((0, 0, "y" * 9),), ((0, 9, ""),))), 3)
        self.assertEqual((trial.text(), trial.cuts), ("abcd" + "x" * 3996, {3: ((3, 0, 9),)}))


if __name__ == "__main__":
    unittest.main()
