"""[23] what stands, [24] keepers, [25] settled rows, and of [28] when a stand is settled."""

import itertools
import unittest

from deedstand.errors import Unsettled
from deedstand.keepers import is_keeper, laid_out, letters_of, own_keeper, shown_by
from deedstand.settledrows import first_untold, is_settled, row_of, text_of
from deedstand.stands import deeds_of, has_deed, is_shown, stand_of, turned
from tests.ways import (
    AB, AB_CUTS, ANY_VALUES, END, HEAD, all_signs, chain_births, closed, drawn_births, drawn_cuts, keepers_of,
    plain_laid, plain_shown, rng_for,
)

BORDER = ((0, HEAD, END, ""),)


class TestStands(unittest.TestCase):

    def test_example(self):
        self.assertEqual((turned(14, (4, 2)), deeds_of(26), stand_of((3, 1))), (26, (1, 3, 4), 10))

    def test_bits(self):
        for stand in range(70):
            deeds = tuple(deed for deed in range(12) if bin(stand)[2:].zfill(12)[::-1][deed] == "1")
            self.assertEqual(deeds_of(stand), deeds)
            self.assertEqual(stand_of(deeds), stand)
            self.assertEqual(stand_of(deeds[::-1] + deeds), stand)
            for deed in range(12):
                self.assertIs(has_deed(stand, deed), deed in deeds)
                self.assertEqual(has_deed(turned(stand, (deed,)), deed), deed not in deeds)
                self.assertEqual(turned(stand, (deed, 3, deed)), turned(stand, (3,)))
            self.assertEqual(turned(stand, ()), stand)
        self.assertEqual(stand_of(()), 0)
        self.assertEqual(deeds_of(0), ())

    def test_greatest_deed(self):
        stand = stand_of(deeds=(299, 0))
        self.assertEqual(deeds_of(stand=stand), (0, 299))
        self.assertIs(has_deed(stand=stand, deed=299), True)
        self.assertIs(has_deed(stand, 298), False)
        self.assertEqual(turned(stand=stand, deeds=(299,)), 1)

    def test_shown(self):
        self.assertEqual([is_shown(AB, AB_CUTS, 14, sign) for sign in all_signs(AB)],
                         [False, False, True, False, True])
        self.assertEqual([is_shown(AB, AB_CUTS, 10, sign) for sign in all_signs(AB)],
                         [False, False, True, True, True])
        self.assertIs(is_shown(births=AB, cuts={}, stand=1 << 299, sign=(1, 0)), False)
        self.assertIs(is_shown(AB, AB_CUTS, 1, HEAD), False)

    def test_shown_as_told(self):
        rng = rng_for("shown")
        for _ in range(200):
            births = drawn_births(rng, rng.randint(0, 5), longest=4)
            cuts = drawn_cuts(rng, births)
            kept = {deed: tuple(cuts[deed]) for deed in cuts}
            for stand in range(0, 16):
                for sign in all_signs(births):
                    self.assertIs(is_shown(births, cuts, stand, sign), plain_shown(births, cuts, stand, sign))
            self.assertEqual(cuts, kept)


class TestKeepers(unittest.TestCase):

    def test_examples(self):
        self.assertEqual(laid_out(AB, (5, -1)), ((0, 0), (1, 0), (1, 1), (2, 0), (0, 1)))
        self.assertEqual(laid_out(AB, (0, 0)), ((0, 0), (1, 0), (2, 0), (1, 1), (0, 1)))
        self.assertEqual(laid_out(AB, (0, -1)), ((0, 0), (1, 0), (1, 1), (2, 0), (0, 1)))
        self.assertEqual(own_keeper(AB), laid_out(AB, ()))
        self.assertEqual(own_keeper(BORDER), (HEAD, END))

    def test_laid_as_told(self):
        rng = rng_for("laid")
        for _ in range(400):
            births = drawn_births(rng, rng.randint(0, 7), longest=3)
            many = rng.randint(0, len(births) + 1)
            choices = tuple(rng.choice((0, -1, 1, 2, -2, -7, 9, 10 ** 9, -10 ** 9)) for _ in range(many))
            row = laid_out(births, choices)
            self.assertIs(type(row), tuple)
            self.assertEqual(row, plain_laid(births, choices))
            self.assertTrue(is_keeper(births, row))
            self.assertEqual(laid_out(births, choices[:len(births) - 1]), row)
            self.assertEqual(laid_out(births, (choices + (0,) * 9)[:9]), row)
            if len(births) > 1:
                elder = tuple(sign for sign in row if sign[0] != len(births) - 1)
                self.assertEqual(laid_out(births[:-1], choices), elder)
            self.assertEqual(own_keeper(births=births), plain_laid(births, ()))

    def test_first_and_last_choices(self):
        rng = rng_for("zero")
        for _ in range(100):
            births = drawn_births(rng, rng.randint(1, 6))
            last = len(births) - 1
            row = laid_out(births, ())
            self.assertEqual(row[row.index((last, 0)) - 1], births[last][1])
            row = laid_out(births=births, choices=(0,) * (last - 1) + (-1,))
            end = (last, len(births[last][3]) - 1)
            self.assertEqual(row[row.index(end) + 1], births[last][2])

    def test_choices_lay_out_exactly_the_whole_keepers(self):
        rng = rng_for("whole")
        for _ in range(25):
            births = drawn_births(rng, 4)
            keepers = keepers_of(births)
            self.assertTrue(all(is_keeper(births, row) for row in keepers))
            whole = [row for row in keepers if self.is_whole(births, row)]
            laid = {laid_out(births, choices) for choices in itertools.product(range(9), repeat=4)}
            self.assertEqual(laid, set(whole))

    def is_whole(self, births, row):
        for chunk in range(1, len(births)):
            places = [row.index((chunk, index)) for index in range(len(births[chunk][3]))]
            if any(sign[0] < chunk for sign in row[places[0]:places[-1]]):
                return False
        return True

    def test_is_keeper_over_all_rows(self):
        rng = rng_for("keeper")
        for _ in range(30):
            births = drawn_births(rng, rng.randint(0, 3), longest=2)
            signs = all_signs(births)
            if len(signs) > 6:
                continue
            told = closed(births)
            for row in itertools.permutations(signs):
                expected = all((y, x) not in told for k, x in enumerate(row) for y in row[k:])
                self.assertIs(is_keeper(births, row), expected)

    def test_is_keeper_refuses(self):
        right = own_keeper(AB)
        self.assertIs(is_keeper(births=AB, thing=right), True)
        for thing in (
            (), right[1:], right[:-1], right[:2] + right[3:], right + right[-1:], right[:2] + right[1:], right[::-1],
            list(right), right + ((2, 1),), right[:-1] + ((0, True),), ((False, 0),) + right[1:], tuple("abcde"),
            right[:2] + ((2, 0), (2, 0)) + right[-1:], ((0, 0), (1, 0), [2, 0], (1, 1), (0, 1)),
            right[:2] + ([],) + right[3:], right[:2] + (None,) + right[3:], right[:2] + ((3, 0),) + right[3:],
        ):
            self.assertIs(is_keeper(AB, thing), False, thing)
        for thing in ANY_VALUES:
            self.assertIs(is_keeper(AB, thing), False, thing)
            self.assertIs(is_keeper(AB, (thing,)), False, thing)
            self.assertIs(is_keeper(AB, right[:2] + (thing,) + right[3:]), False, thing)
        self.assertIs(is_keeper(BORDER, (HEAD, END)), True)
        self.assertIs(is_keeper(BORDER, (END, HEAD)), False)
        self.assertIs(is_keeper(BORDER, ((False, 0), (0, 1))), False)

    def test_shown_by(self):
        rng = rng_for("shown by")
        for _ in range(200):
            births = drawn_births(rng, rng.randint(0, 5), longest=3)
            cuts = drawn_cuts(rng, births)
            kept = dict(cuts)
            signs = all_signs(births)
            row = tuple(rng.choice(signs) for _ in range(rng.randint(0, 9)))
            for stand in range(16):
                expected = tuple(sign for sign in row if plain_shown(births, cuts, stand, sign))
                got = shown_by(births, cuts, row, stand)
                self.assertIs(type(got), tuple)
                self.assertEqual(got, expected)
            self.assertEqual(cuts, kept)
        self.assertEqual(shown_by(births=AB, cuts=AB_CUTS, keeper=own_keeper(AB), stand=14), ((1, 0), (2, 0)))

    def test_letters_of(self):
        self.assertEqual(letters_of(AB, ((2, 0), (1, 1), (2, 0))), "XbX")
        self.assertEqual(letters_of(births=AB, signs=()), "")


class TestSettled(unittest.TestCase):

    def test_examples(self):
        self.assertEqual(text_of(AB, AB_CUTS, 14), "aX")
        with self.assertRaises(Unsettled) as caught:
            row_of(AB, AB_CUTS, 10)
        self.assertEqual((caught.exception.one, caught.exception.other), ((2, 0), (1, 1)))
        self.assertEqual(row_of(AB, AB_CUTS, 14), ((1, 0), (2, 0)))

    def test_first_untold(self):
        rng = rng_for("untold")
        for _ in range(200):
            births = drawn_births(rng, rng.randint(0, 6))
            told = closed(births)
            signs = all_signs(births)
            row = tuple(rng.choice(signs) for _ in range(rng.randint(0, 9)))
            pairs = [(x, y) for x, y in zip(row, row[1:])
                     if x != y and (x, y) not in told and (y, x) not in told]
            self.assertEqual(first_untold(births, row), pairs[0] if pairs else None)
        self.assertIsNone(first_untold(births=AB, row=()))
        self.assertIsNone(first_untold(AB, ((1, 1), (1, 1))))
        self.assertIsNone(first_untold(AB, (END, HEAD)))
        self.assertEqual(first_untold(AB, ((2, 0), (2, 0), (1, 1), (2, 0))), ((2, 0), (1, 1)))

    def test_settled_as_told(self):
        rng = rng_for("settled")
        both = {True: 0, False: 0}
        for _ in range(150):
            births = drawn_births(rng, rng.randint(0, 5))
            cuts = drawn_cuts(rng, births)
            told = closed(births)
            for stand in range(0, 16, 2):
                shown = [sign for sign in all_signs(births) if plain_shown(births, cuts, stand, sign)]
                settled = all(x == y or (x, y) in told or (y, x) in told for x in shown for y in shown)
                both[settled] += 1
                self.assertIs(is_settled(births, cuts, stand), settled)
                row = tuple(sign for sign in plain_laid(births, ()) if sign in shown)
                if not settled:
                    for call in (row_of, text_of):
                        with self.assertRaises(Unsettled) as caught:
                            call(births, cuts, stand)
                        pair = (caught.exception.one, caught.exception.other)
                        self.assertEqual(pair, first_untold(births, row))
                    continue
                self.assertEqual(row_of(births, cuts, stand), row)
                self.assertIs(type(row_of(births, cuts, stand)), tuple)
                self.assertTrue(all((x, y) in told for x, y in zip(row, row[1:])))
                text = "".join(births[chunk][3][index] for chunk, index in row)
                self.assertEqual(text_of(births, cuts, stand), text)
        self.assertTrue(min(both.values()) > 100)

    def test_all_keepers_tell_the_same(self):
        rng = rng_for("any keeper")
        for _ in range(25):
            births = drawn_births(rng, 4, longest=1)
            cuts = drawn_cuts(rng, births)
            keepers = keepers_of(births)
            for stand in range(0, 16, 2):
                rows = {shown_by(births, cuts, keeper, stand) for keeper in keepers}
                settled = is_settled(births, cuts, stand)
                self.assertEqual(settled, len(rows) == 1)
                for row in rows:
                    self.assertEqual(first_untold(births, row) is None, settled)

    def test_by_name(self):
        self.assertIs(is_settled(births=AB, cuts=AB_CUTS, stand=10), False)
        self.assertEqual(row_of(births=AB, cuts=AB_CUTS, stand=8), ((2, 0),))
        self.assertEqual(text_of(births=AB, cuts={}, stand=2), "ab")
        self.assertEqual(text_of(BORDER, {}, 0), "")
        self.assertEqual(row_of(BORDER, {}, 3), ())

    def test_longest(self):
        births = chain_births(200)
        self.assertEqual(text_of(births, {}, 2), "a" * 200 + "b" * 200)
        cuts = {deed: tuple((chunk, 0, 2) for chunk in range(deed, 201, 3)) for deed in (2, 3)}
        self.assertEqual(len(row_of(births, cuts, 14)), 400 - 2 * sum(chunk % 3 != 1 for chunk in range(2, 201)))
        side = ((0, HEAD, END, ""),) + tuple((1 + k % 2, HEAD, END, "ab") for k in range(200))
        self.assertIs(is_settled(side, {}, 2), False)
        self.assertEqual(first_untold(side, own_keeper(side)), ((200, 1), (199, 0)))


if __name__ == "__main__":
    unittest.main()
