"""[40] what comes back and what touches, [41] what falls, against plain counting."""

import unittest

from deedstand.errors import NoSuch, TooMuch, Unsettled
from deedstand.felling import fell_deeds
from deedstand.settledrows import is_settled
from deedstand.sheets import Sheet
from deedstand.turning import clash_of, coming_back, touching_of
from tests.plainsheet import (
    PlainSheet, counted_touching, drawn_pair, flipped, is_told, plain_coming, plain_fell, plain_touching, shown_in,
    untold_among,
)
from tests.ways import AB, AB_CUTS, drawn_births, drawn_cuts, rng_for

PUT_AB = (((0, 0, "ab"),),)
CUT_B = (((1, 1, ""),),)
PUT_X = (((1, 0, "X"),),)
CUT_X = (((1, 1, ""),),)


def sheet_of(*deeds):
    sheet = Sheet("s")
    for rounds in deeds:
        sheet.do(rounds)
    return sheet


def drawn_sheets(name, many, steps):
    """Pairs of a sheet and the plain sheet like it."""
    rng = rng_for(name)
    for _ in range(many):
        sheet, plain = Sheet("s"), PlainSheet()
        drawn_pair(rng, sheet, plain, rng.randint(1, steps))
        yield sheet, plain


class TestFunctions(unittest.TestCase):

    def test_examples(self):
        got = coming_back(AB, AB_CUTS, 0, (1, 3)), touching_of(AB, AB_CUTS, 14, 2), clash_of(AB, AB_CUTS, 14)
        self.assertEqual(got, (((1, 0), (2, 0), (1, 1)), (3,), None))
        self.assertEqual(fell_deeds(AB, AB_CUTS, 14, 2), (2, 3))
        self.assertIn(clash_of(AB, AB_CUTS, 10), (((1, 1), (2, 0)), ((2, 0), (1, 1))))

    def test_by_name(self):
        self.assertEqual(coming_back(births=AB, cuts=AB_CUTS, stand=14, deeds=(2,)), ((1, 1),))
        self.assertEqual(touching_of(births=AB, cuts=AB_CUTS, stand=14, deed=1), ())
        self.assertIsNone(clash_of(births=AB, cuts={}, stand=2))
        self.assertEqual(fell_deeds(births=AB, cuts=AB_CUTS, stand=14, deed=3), (3,))

    def test_two_that_go_alone_only(self):
        births = AB
        cuts = {2: ((1, 1, 1),), 4: ((2, 0, 1),)}
        self.assertEqual((touching_of(births, cuts, 30, 2), touching_of(births, cuts, 30, 4)), ((), ()))
        self.assertIsNone(clash_of(births, cuts, 30 - 4))
        self.assertIsNone(clash_of(births, cuts, 30 - 16))
        self.assertIsNotNone(clash_of(births, cuts, 30 - 4 - 16))
        # Standing up 2 when both are struck away is refused; 4 touches by what it would bring back.
        self.assertEqual(touching_of(births, cuts, 30 - 4, 4), (1,))
        self.assertEqual(touching_of(births, cuts, 30 - 16, 2), (3,))

    def test_drawn_sheets(self):
        seen = {"touched": 0, "free": 0, "several": 0}
        for sheet, plain in drawn_sheets("touching", 120, 12):
            births, cuts, stand = plain.births, plain.cuts, plain.stand()
            kept = dict(cuts)
            before = shown_in(births, cuts, stand)
            for deed in plain.edits():
                got = touching_of(births, cuts, stand, deed)
                self.assertIs(type(got), tuple)
                self.assertEqual(got, plain_touching(births, cuts, stand, deed))
                self.assertEqual(got, counted_touching(births, cuts, stand, deed))
                after = flipped(stand, (deed,))
                self.assertEqual(got == (), is_settled(births, cuts, after))
                seen["touched" if got else "free"] += 1
                seen["several"] += len(got) > 1
                self.check_clash(births, cuts, after)
                back = coming_back(births, cuts, stand, (deed,))
                self.assertEqual(back, plain_coming(births, cuts, stand, (deed,)))
                self.assertIs(type(back), tuple)
                own = {sign for sign in before if births[sign[0]][0] == deed}
                if stand >> deed & 1 and all(births[chunk][0] == deed for chunk, _, _ in cuts.get(deed, ())):
                    self.assertEqual(got, ())
                put = [(chunk, index) for chunk in range(1, len(births)) if births[chunk][0] == deed
                       for index in range(len(births[chunk][3]))]
                cut = {(chunk, start + k) for chunk, start, many in cuts.get(deed, ()) for k in range(many)}
                if not stand >> deed & 1 and set(put) <= cut:
                    self.assertEqual((got, own), ((), set()))
            for deeds in ((), tuple(plain.edits()), tuple(plain.edits()[::2])):
                self.assertEqual(coming_back(births, cuts, stand, deeds), plain_coming(births, cuts, stand, deeds))
                self.check_clash(births, cuts, flipped(stand, deeds))
            self.assertEqual(cuts, kept)
        self.assertTrue(min(seen.values()) > 20, seen)

    def check_clash(self, births, cuts, stand):
        clash = clash_of(births, cuts, stand)
        shown = shown_in(births, cuts, stand)
        if clash is None:
            self.assertEqual(untold_among(births, shown), [])
        else:
            self.assertIs(type(clash), tuple)
            self.assertTrue(set(clash) <= shown and len(set(clash)) == 2)
            self.assertFalse(is_told(births, clash[0], clash[1]))

    def test_any_births(self):
        rng = rng_for("any births fall")
        rounds = {}
        for _ in range(500):
            births = drawn_births(rng, rng.randint(1, 9), deeds=7)
            cuts = drawn_cuts(rng, births, deeds=7, chance=0.25)
            stand = 2 * rng.randrange(128)
            self.check_clash(births, cuts, stand)
            if not is_settled(births, cuts, stand):
                continue
            for deed in range(1, 8):
                self.assertEqual(coming_back(births, cuts, stand, (deed,)), plain_coming(births, cuts, stand, (deed,)))
                self.assertEqual(touching_of(births, cuts, stand, deed), plain_touching(births, cuts, stand, deed))
                if stand >> deed & 1:
                    deeds, times = plain_fell(births, cuts, stand, deed)
                    got = fell_deeds(births, cuts, stand, deed)
                    self.assertEqual(got, deeds)
                    self.assertIs(type(got), tuple)
                    rounds[times] = rounds.get(times, 0) + 1
        self.assertTrue(rounds[1] > 20 and rounds[2] > 5, rounds)

    def test_fell_round_by_round(self):
        # 2 cuts the b; 3 puts X there, 4 cuts the X, 5 puts Y there: Y keeps b away, and b keeps X away no more.
        sheet = sheet_of(PUT_AB, CUT_B, PUT_X, CUT_X, (((1, 0, "Y"),),))
        self.assertEqual(sheet.fell(2), (2, 5))
        self.assertEqual(sheet.text(), "ab")
        sheet.undo()
        self.assertEqual((sheet.touching(4), sheet.fell(4), sheet.text()), ((5,), (4, 5), "aX"))

    def test_fell_with_several_rounds(self):
        found = {}
        for sheet, plain in drawn_sheets("falling", 160, 16):
            before = sheet.plain()
            for deed in sheet.standing():
                deeds, times = plain_fell(plain.births, plain.cuts, plain.stand(), deed)
                trial = sheet.trial()
                self.assertEqual(trial.fell(deed), deeds)
                self.assertEqual(trial.nodes[-1], ("turn", sheet.place, deeds))
                self.assertEqual(len(deeds) == 1, sheet.can_turn(deed) is None)
                self.assertEqual(fell_deeds(plain.births, plain.cuts, plain.stand(), deed), deeds)
                found[times] = found.get(times, 0) + 1
            self.assertEqual(sheet.plain(), before)
        self.assertTrue(found[0] > 100 and found[1] > 30 and found[2] > 0, found)


class TestSheetTurns(unittest.TestCase):

    def test_struck_together_only(self):
        # 2 cuts the b and puts Q elsewhere; 3 puts R where the b was and cuts the Q; 4 puts S where the Q was.
        sheet = sheet_of((((0, 0, "abcd"),),), (((1, 1, ""), (3, 0, "Q")),), (((1, 0, "R"), (2, 1, "")),),
                         (((3, 0, "S"),),))
        self.assertEqual((sheet.text(), sheet.touching(2), sheet.touching(3)), ("aRcSd", (3,), (4,)))
        self.assertEqual(sheet.turnable(), (1, 4))
        for deed in (2, 3):
            with self.assertRaises(Unsettled):
                sheet.strike(deed)
        self.assertEqual((sheet.turn((2, 3)), sheet.text(), sheet.standing()), (5, "abcSd", (1, 4)))
        self.assertEqual((sheet.touching(2), sheet.touching(3)), ((4,), (1,)))
        self.assertEqual((sheet.turn((2, 3)), sheet.text()), (6, "aRcSd"))
        self.assertEqual((sheet.fell(2), sheet.text(), sheet.undo()), ((2, 3), "abcSd", 6))
        self.assertEqual((sheet.fell(3), sheet.text()), ((3, 4), "acQd"))

    def test_each_but_not_both(self):
        sheet = sheet_of(PUT_AB, CUT_B, PUT_X, CUT_X)
        self.assertEqual(sheet.turnable(), (1, 2, 3, 4))
        for one, other in ((2, 4), (4, 2)):
            trial = sheet.trial()
            trial.strike(one)
            with self.assertRaises(Unsettled) as caught:
                trial.strike(other)
            self.assertEqual({caught.exception.one, caught.exception.other}, {(1, 1), (2, 0)})
        with self.assertRaises(Unsettled):
            sheet.turn((2, 4))
        self.assertEqual((sheet.strike(1), sheet.text(), sheet.standing()), (5, "", (2, 3, 4)))

    def test_every_turn(self):
        let = {True: 0, False: 0}
        rng = rng_for("every turn")
        for sheet, plain in drawn_sheets("turning", 150, 10):
            edits = plain.edits()
            draws = [tuple(sorted(rng.sample(edits, rng.randint(1, min(4, len(edits)))))) for _ in range(4) if edits]
            for deeds in draws + [(deed,) for deed in edits]:
                pairs = plain.untold_by(deeds)
                let[not pairs] += 1
                self.check_turn(sheet, plain, deeds, pairs)
            self.assertEqual(sheet.turnable(), tuple(deed for deed in edits if not plain.untold_by((deed,))))
        self.assertTrue(min(let.values()) > 100, let)

    def check_turn(self, sheet, plain, deeds, pairs):
        before = sheet.plain(), dict(sheet.cuts), sheet.text(), sheet.row_signs(), sheet.standing()
        trial = sheet.trial()
        if pairs:
            for call in (trial.turn, self.single(trial, deeds)):
                with self.assertRaises(Unsettled) as caught:
                    call(deeds)
                one, other = caught.exception.one, caught.exception.other
                self.assertIn(tuple(sorted((one, other))), pairs)
            self.assertEqual(before[0], trial.plain())
            self.assertEqual(before[2:], (trial.text(), trial.row_signs(), trial.standing()))
            self.assertIsNotNone(trial.paper(deeds))
        else:
            node = trial.turn(deeds)
            self.assertEqual(node, len(plain.nodes))
            self.assertEqual((trial.place, trial.parent(node), trial.nodes[node]),
                             (node, sheet.place, ("turn", sheet.place, deeds)))
            standing = tuple(sorted(set(sheet.standing()) ^ set(deeds)))
            self.assertEqual((trial.standing(), trial.standing_at(node)), (standing, standing))
            self.assertEqual((trial.births, trial.cuts), (sheet.births, sheet.cuts))
            self.assertEqual(trial.undo(), sheet.place)
            self.assertEqual((trial.text(), trial.row_signs(), trial.standing()), before[2:])
            self.assertIsNone(sheet.paper(deeds))
        self.assertEqual(before, (sheet.plain(), sheet.cuts, sheet.text(), sheet.row_signs(), sheet.standing()))

    def single(self, sheet, deeds):
        """strike or stand_up for one deed, turn for several."""
        if len(deeds) > 1:
            return sheet.turn
        if deeds[0] in sheet.standing():
            return lambda deeds: sheet.strike(deeds[0])
        return lambda deeds: sheet.stand_up(deeds[0])

    def test_other_branch(self):
        sheet = sheet_of(PUT_AB)
        self.assertEqual(sheet.do_at(0, (((0, 0, "zz"),),)), 2)
        self.assertEqual((sheet.text(), sheet.can_turn(1) is None), ("zz", False))
        sheet.go(1)
        self.assertEqual(sheet.do((((2, 0, "!"),),)), 3)
        self.assertEqual((sheet.do_at(1, (((0, 2, ""),),)), sheet.text()), (4, ""))
        self.assertEqual((sheet.stand_up(2), sheet.text(), sheet.standing()), (5, "zz", (1, 2, 4)))
        with self.assertRaises(Unsettled):
            sheet.strike(4)
        self.assertEqual((sheet.touching(4), sheet.fell(4), sheet.text()), ((2,), (2, 4), "ab"))
        self.assertEqual((sheet.stand_up(3), sheet.text(), sheet.path(sheet.place)), (7, "ab!", (0, 1, 4, 5, 6, 7)))

    def test_deeds_that_changed_little(self):
        # 2 puts and cuts its own; 3 cuts only; 4 cuts nothing of others.
        sheet = sheet_of(PUT_AB, (((1, 0, "Q"),), ((1, 1, ""),)), CUT_B, (((1, 0, "X"),),))
        self.assertEqual(sheet.cuts, {2: ((2, 0, 1),), 3: ((1, 1, 1),)})
        self.assertEqual((sheet.strike(2), sheet.text(), sheet.stand_up(2), sheet.text()), (5, "aX", 6, "aX"))
        self.assertEqual((sheet.touching(2), sheet.touching(3), sheet.touching(4)), ((), (4,), ()))
        self.assertEqual((sheet.strike(4), sheet.strike(3), sheet.stand_up(3), sheet.text()), (7, 8, 9, "a"))


class TestErrors(unittest.TestCase):

    def refused(self, error, fields, call, *args):
        with self.assertRaises(error) as caught:
            call(*args)
        self.assertEqual(vars(caught.exception), fields)
        for field, value in fields.items():
            self.assertIs(type(getattr(caught.exception, field)), type(value))

    def no_deed(self, name, call, *args):
        self.refused(NoSuch, {"what": "deed", "name": name}, call, *args)

    def test_no_such_deed(self):
        sheet = sheet_of(PUT_AB, CUT_B)
        self.assertEqual(sheet.strike(2), 3)
        before = sheet.plain()
        self.no_deed(0, sheet.turn, ())
        self.no_deed(0, sheet.paper, ())
        for wrong in (0, 3, 4, 300, 10 ** 9, -1, True, False, None, "1", (1,), 1.0):
            for call in (sheet.strike, sheet.stand_up, sheet.fell, sheet.can_turn, sheet.touching):
                self.no_deed(wrong, call, wrong)
            for call in (sheet.turn, sheet.paper):
                self.no_deed(wrong, call, (wrong,))
                self.no_deed(wrong, call, (1, wrong))
                self.no_deed(wrong, call, (wrong, 1))
        for call in (sheet.turn, sheet.paper):
            self.no_deed(1, call, (2, 1))
            self.no_deed(1, call, (1, 1))
            self.no_deed(2, call, (2, 2))
            self.no_deed(1, call, (2, 1, 3))
            self.no_deed(3, call, (1, 2, 3, 1))
        # 2 does not stand now, 1 does.
        self.no_deed(2, sheet.strike, 2)
        self.no_deed(2, sheet.fell, 2)
        with self.assertRaises(Exception) as caught:
            sheet.stand_up(1)
        self.assertEqual((caught.exception.word(), caught.exception.name), ("Taken", 1))
        self.assertEqual(sheet.plain(), before)
        self.assertIsNone(sheet.can_turn(2))

    def test_by_name(self):
        sheet = sheet_of(PUT_AB, CUT_B, PUT_X)
        self.assertIsNone(sheet.can_turn(deed=1))
        self.assertEqual(sheet.touching(deed=2), (3,))
        self.assertIsNone(sheet.paper(deeds=(2, 3)))
        self.assertEqual(sheet.turn(deeds=(2, 3)), 4)
        self.assertEqual((sheet.stand_up(deed=2), sheet.strike(deed=1), sheet.text()), (5, 6, ""))
        self.assertEqual((sheet.undo(), sheet.fell(deed=2)), (5, (2,)))

    def test_too_much_ahead_of_unsettled(self):
        sheet = sheet_of(PUT_AB, CUT_B, PUT_X)
        while len(sheet.nodes) < 299:
            sheet.turn((3,))
        sheet.turn((3,))
        self.assertEqual((len(sheet.nodes), sheet.standing()), (300, (1, 2, 3)))
        before = sheet.plain()
        self.refused(TooMuch, {"what": "nodes"}, sheet.turn, (2,))
        self.refused(TooMuch, {"what": "nodes"}, sheet.strike, 2)
        self.refused(TooMuch, {"what": "nodes"}, sheet.strike, 3)
        self.refused(TooMuch, {"what": "nodes"}, sheet.fell, 2)
        self.no_deed(0, sheet.turn, ())
        self.no_deed(300, sheet.turn, (2, 300))
        self.no_deed(4, sheet.fell, 4)
        self.assertEqual(sheet.plain(), before)
        self.assertEqual((sheet.undo(), sheet.can_turn(2) is None, sheet.touching(2)), (298, True, ()))

    def test_text_met_and_beyond(self):
        for size, is_let in ((2000, True), (2001, False)):
            sheet = sheet_of((((0, 0, "a" * 2000),),), (((0, 2000, ""),),), (((0, 0, "b" * size),),))
            # Chunk 1 was cut, chunk 3 lies in its gap: nothing told, so 2 is refused as not settled first.
            self.assertEqual(sheet.touching(2), (3,))
            sheet = sheet_of((((0, 0, "a"),),), (((0, 0, "b" * 2000),),), (((0, 2000, ""),),),
                             (((1, 0, "c" * (size - 1)),),))
            before = sheet.plain()
            if is_let:
                self.assertEqual((sheet.strike(3), sheet.size()), (5, 4000))
            else:
                self.refused(TooMuch, {"what": "text"}, sheet.strike, 3)
                self.refused(TooMuch, {"what": "text"}, sheet.turn, (3,))
                self.refused(TooMuch, {"what": "text"}, sheet.fell, 3)
                self.assertIsNone(sheet.can_turn(3))
                self.assertEqual((sheet.plain(), sheet.size(), sheet.turnable()), (before, 2001, (1, 2, 3, 4)))


if __name__ == "__main__":
    unittest.main()
