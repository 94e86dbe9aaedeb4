"""[35] weaves, and [36] what follows, against a plain row of signs."""

import unittest

from deedstand.birthrows import fresh_births
from deedstand.errors import BadPlace, BadSplice
from deedstand.hopping import told_ahead
from deedstand.keepers import is_keeper, laid_out
from deedstand.settledrows import is_settled, row_of, text_of
from deedstand.splicing import check_round
from deedstand.textlines import place_of, row_bounds, rows_of, spot_of
from deedstand.treejoins import built
from deedstand.treenodes import height_of
from deedstand.treereading import is_sound, pieces_of, signs_of
from deedstand.weaves import Weave, fresh_weave
from tests.test_trees import plain_sound
from tests.ways import AB, END, HEAD, drawn_round, plain_laid, plain_spliced, plain_stretches, rng_for


class PlainWeave:
    """A row of signs, each with its cutters; all is done sign by sign."""

    def __init__(self, choices):
        self.choices = choices
        self.births = ((0, HEAD, END, ""),)
        self.stand = 0
        self.row = [HEAD, END]
        self.cuts = {}

    def is_shown(self, sign):
        if sign[0] == 0 or not self.stand >> self.births[sign[0]][0] & 1:
            return False
        return not any(self.stand >> deed & 1 and sign in signs for deed, signs in self.cuts.items())

    def shown(self):
        return [sign for sign in self.row if self.is_shown(sign)]

    def text(self):
        return "".join(self.births[chunk][3][index] for chunk, index in self.shown())

    def lay(self, deed, splices):
        """[7]: from the last splice to the first, each on the row as it is then."""
        self.stand |= 1 << deed
        taken = set()
        for at, cut, text in reversed(splices):
            shown = [HEAD] + self.shown() + [END]
            left, right = shown[at], shown[at + cut + 1]
            away = shown[at + 1:at + cut + 1]
            taken |= set(away)
            if away:
                self.cuts.setdefault(deed, set()).update(away)
            if text:
                chunk = len(self.births)
                self.births += ((deed, left, right, text),)
                begin = self.row.index(left) + 1
                gap = self.row.index(right) - begin
                choice = self.choices[chunk - 1] if chunk <= len(self.choices) else 0
                at = begin + choice % (gap + 1)
                self.row[at:at] = [(chunk, index) for index in range(len(text))]
        return plain_stretches(taken)

    def told_cuts(self):
        return {deed: plain_stretches(signs) for deed, signs in self.cuts.items()}


def drawn_choices(rng):
    kind = rng.choice(("none", "few", "many", "last"))
    if kind == "none":
        return ()
    if kind == "last":
        return (-1,) * 60
    return tuple(rng.choice((0, -1, 1, 2, -2, 7, 10 ** 9, -10 ** 9)) for _ in range(60 if kind == "many" else 4))


class TestWeaves(unittest.TestCase):

    def test_example(self):
        weave = fresh_weave().laid_round(1, ((0, 0, "ab"),))[0]
        got = weave.laid_round(2, ((0, 1, "X"), (1, 1, "Y")))[0].births[2:]
        self.assertEqual(got, ((2, (1, 0), (0, 1), "Y"), (2, (0, 0), (2, 0), "X")))

    def test_fresh(self):
        weave = fresh_weave()
        self.assertIs(type(weave), Weave)
        self.assertEqual(vars(weave), {"births": fresh_births(), "stand": 0, "tree": None})
        self.assertEqual((weave.text(), weave.size(), weave.row_many(), weave.row(0), weave.row_signs()),
                         ("", 0, 1, "", ()))
        self.assertEqual((weave.sign_before(0), weave.sign_behind(0), weave.spot(0)), (HEAD, END, (0, 0)))
        self.assertEqual((weave.place_at(0, 5), weave.stretch(0, 0), weave.row_start(0)), (0, "", 0))

    def test_ab(self):
        weave = fresh_weave().laid_round(1, ((0, 0, "ab"),))[0]
        weave, cut = weave.laid_round(2, ((1, 1, ""),))
        self.assertEqual(cut, ((1, 1, 1),))
        weave, cut = weave.laid_round(3, ((1, 0, "X"),))
        self.assertEqual((weave.births, weave.stand, weave.text(), cut), (AB, 14, "aX", ()))
        self.assertEqual(signs_of(weave.tree), ((1, 0), (2, 0), (1, 1)))
        self.assertEqual(weave.turned_to(10).text(), "aXb")
        self.assertEqual(weave.turned_to(8).text(), "X")

    def test_by_name(self):
        pieces = ((1, 0, 1, 0, True), (2, 0, 1, 0, True), (1, 1, 1, 4, False))
        weave = Weave(births=AB, stand=14, tree=built(pieces, AB))
        got, cut = weave.laid_round(deed=4, splices=((2, 0, "\n"),), choices=(0, 0, -1))
        self.assertEqual((got.text(), cut, signs_of(got.tree)[-1]), ("aX\n", (), (3, 0)))
        got = weave.laid_round(4, ((2, 0, "\n"),))[0]
        self.assertEqual(signs_of(got.tree)[-1], (1, 1))
        self.assertEqual(got.place_at(line=1, column=3), 3)
        self.assertEqual((got.row(line=0), got.row_start(line=1), got.spot(place=3)), ("aX", 3, (1, 0)))
        self.assertEqual((got.sign_before(place=1), got.sign_behind(place=1)), ((1, 0), (2, 0)))
        self.assertEqual((got.stretch(low=1, high=3), got.turned_to(stand=2).text()), ("X\n", "ab"))
        with self.assertRaises(TypeError):
            weave.laid_round(4, ((2, 0, "\n"),), (0, 0, -1))

    def check_reading(self, weave, text, shown):
        self.assertEqual((weave.text(), weave.size(), weave.row_signs()), (text, len(text), tuple(shown)))
        self.assertIs(type(weave.row_signs()), tuple)
        rows = rows_of(text)
        self.assertEqual(weave.row_many(), len(rows))
        for line, row in enumerate(rows):
            self.assertEqual((weave.row(line), weave.row_start(line)), (row, row_bounds(text, line)[0]))
            for column in range(len(row) + 2):
                self.assertEqual(weave.place_at(line, column), place_of(text, line, column))
        signs = [HEAD] + list(shown) + [END]
        for place in range(len(text) + 1):
            self.assertEqual(weave.spot(place), spot_of(text, place))
            self.assertEqual((weave.sign_before(place), weave.sign_behind(place)), (signs[place], signs[place + 1]))
            self.assertEqual(weave.stretch(place, len(text)), text[place:])
            self.assertEqual(weave.stretch(0, place), text[:place])
        for more in (1, 2, 10 ** 9):
            self.refused(len(text) + more, weave.spot, len(text) + more)
            self.refused(len(text) + more, weave.sign_before, len(text) + more)
            self.refused(len(text) + more, weave.sign_behind, len(text) + more)
            self.refused(len(text) + more, weave.stretch, len(text) + more, 0)
            self.refused(len(text) + more, weave.stretch, len(text), len(text) + more)
            self.refused(len(rows) - 1 + more, weave.row, len(rows) - 1 + more)
            self.refused(len(rows) - 1 + more, weave.row_start, len(rows) - 1 + more)
            self.refused(len(rows) - 1 + more, weave.place_at, len(rows) - 1 + more, 0)
        if text:
            self.refused(0, weave.stretch, 1, 0)

    def refused(self, wrong, call, *args):
        with self.assertRaises(BadPlace) as caught:
            call(*args)
        self.assertEqual(caught.exception.at, wrong)

    def test_wrong_rounds(self):
        weave = fresh_weave().laid_round(1, ((0, 0, "abcd"),))[0]
        for splices in ((), ((0, 0, ""),), ((5, 0, "x"),), ((0, 5, ""),), ((1, 2, "a"), (2, 1, "b")), (None,),
                        ((True, 0, "a"),), ((0, 1, "\t"),), ((0, 1, ""), (0, 1, "")), ([0, 1, ""],)):
            with self.assertRaises(BadSplice) as told:
                check_round(4, splices)
            with self.assertRaises(BadSplice) as caught:
                weave.laid_round(2, splices)
            self.assertEqual(caught.exception.at, told.exception.at)

    def test_drawn_weaves(self):
        rng = rng_for("weaves")
        settled = {True: 0, False: 0}
        for _ in range(150):
            plain = PlainWeave(drawn_choices(rng))
            weave, deed, seen = fresh_weave(), 0, []
            for _ in range(rng.randint(1, 20)):
                kind = rng.choice(("round", "round", "round", "turn", "tidy"))
                if kind == "round" and is_settled(plain.births, plain.told_cuts(), plain.stand):
                    deed += rng.random() < 0.8 or deed == 0 or not plain.stand >> deed & 1
                    splices = drawn_round(rng, len(plain.text()), most=4)
                    text = plain_spliced(plain.text(), splices)
                    seen.append((weave, dict(vars(weave))))
                    weave, cut = weave.laid_round(deed, splices, choices=plain.choices)
                    self.assertEqual(cut, plain.lay(deed, splices))
                    self.assertIs(type(cut), tuple)
                    self.assertEqual(weave.text(), text)
                elif kind == "tidy":
                    seen.append((weave, dict(vars(weave))))
                    weave = weave.tidy()
                    self.assertEqual(height_of(weave.tree), len(list(pieces_of(weave.tree))).bit_length())
                else:
                    seen.append((weave, dict(vars(weave))))
                    plain.stand = 2 * rng.choice(((1 << deed) - 1, rng.randrange(1 << deed), 0))
                    if rng.random() < 0.7:
                        plain.stand ^= 1 << rng.randint(1, deed + 1)
                    weave = weave.turned_to(plain.stand)
                self.check_weave(weave, plain)
                settled[is_settled(plain.births, plain.told_cuts(), plain.stand)] += 1
            for elder, parts in seen:
                self.assertEqual(vars(elder), parts)
        self.assertTrue(min(settled.values()) > 30, settled)

    def check_weave(self, weave, plain):
        self.assertIs(type(weave), Weave)
        self.assertEqual((weave.births, weave.stand), (plain.births, plain.stand))
        self.assertTrue(plain_sound(weave.tree, weave.births, weave.stand))
        self.assertIs(is_sound(weave.tree, weave.births, weave.stand), True)
        keeper = (HEAD,) + signs_of(weave.tree) + (END,)
        self.assertEqual(keeper, tuple(plain.row))
        self.assertEqual(keeper, plain_laid(weave.births, plain.choices))
        self.assertEqual(keeper, laid_out(weave.births, plain.choices))
        self.assertIs(is_keeper(weave.births, keeper), True)
        many = len(list(pieces_of(weave.tree)))
        self.assertLessEqual(height_of(weave.tree), 2 * (many + 1).bit_length() - 2)
        for _, left, right, _ in weave.births[1:]:
            self.assertTrue(told_ahead(weave.births, left, right))
        cuts = plain.told_cuts()
        if is_settled(weave.births, cuts, weave.stand):
            self.assertEqual(weave.row_signs(), row_of(weave.births, cuts, weave.stand))
            self.assertEqual(weave.text(), text_of(weave.births, cuts, weave.stand))
        self.check_reading(weave, plain.text(), plain.shown())

    def test_tidy_keeps_all(self):
        weave = fresh_weave().laid_round(1, ((0, 0, "abcdef"),))[0]
        for deed, at in ((2, 1), (3, 2), (4, 3)):
            weave = weave.laid_round(deed, ((at, 1, ""),))[0].turned_to(2)
        self.assertEqual(len(list(pieces_of(weave.tree))), 5)
        self.assertEqual(len(list(pieces_of(weave.tidy().tree))), 5)
        weave = fresh_weave().laid_round(1, ((0, 0, "abcdef"),))[0]
        weave = weave.laid_round(2, ((1, 1, ""), (3, 1, "")))[0]
        weave = weave.laid_round(2, ((1, 1, ""),))[0]
        tidy = weave.tidy()
        self.assertEqual([piece[:3] for piece in pieces_of(tidy.tree)], [(1, 0, 1), (1, 1, 3), (1, 4, 2)])
        self.assertEqual((tidy.births, tidy.stand, tidy.text()), (weave.births, weave.stand, "aef"))


class TestLongest(unittest.TestCase):

    def test_long_text_and_many_splices(self):
        text = "abcdefghi\n" * 400
        weave = fresh_weave().laid_round(1, ((0, 0, text),))[0]
        splices = tuple((20 * k, k % 3, "xyz"[:1 + k % 3]) for k in range(200))
        after, cut = weave.laid_round(2, splices, choices=(-1,) * 201)
        text = plain_spliced(text, splices)
        self.assertEqual((after.text(), len(after.births), len(cut)), (text, 202, 133))
        self.assertEqual((after.row(399), after.row_many()), (rows_of(text)[399], text.count("\n") + 1))
        self.assertEqual(after.turned_to(2).text(), weave.text())
        self.assertEqual(after.spot(len(text)), spot_of(text, len(text)))

    def test_many_chunks_and_deeds(self):
        weave, text = fresh_weave(), ""
        rng = rng_for("many chunks")
        for deed in range(1, 300):
            splices = tuple((at, min(6 * (len(text) > 3000), len(text) - at), "abcde\n" * 3)
                            for at in sorted(rng.sample(range(0, len(text) + 1, 7), min(3, len(text) // 7 + 1))))
            weave = weave.laid_round(deed, splices)[0]
            text = plain_spliced(text, splices)
        self.assertEqual(weave.text(), text)
        self.assertTrue(len(weave.births) > 850)
        self.assertEqual(weave.turned_to(0).text(), "")
        self.assertEqual(weave.tidy().text(), text)

    def test_typed_sign_by_sign(self):
        weave = fresh_weave()
        for deed in range(1, 300):
            for k in range(3):
                weave = weave.laid_round(deed, ((weave.size() // 2, 0, "a"),))[0]
        self.assertEqual((weave.text(), weave.size()), ("a" * 897, 897))
        self.assertTrue(height_of(weave.tree) <= 2 * (898).bit_length() - 2)


if __name__ == "__main__":
    unittest.main()
