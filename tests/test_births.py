"""[20] births, [21] what is told ahead, [22] the meet and the join."""

import unittest

from deedstand.birthrows import born, chunk_size, fresh_births, is_sign, letter_of
from deedstand.errors import BadPlace
from deedstand.hopping import at_or_ahead, hops_of, told_ahead
from deedstand.lattice import join_of, meet_of
from tests.ways import AB, ANY_VALUES, END, HEAD, all_signs, chain_births, closed, drawn_births, rng_for

BORDER = ((0, (0, 0), (0, 1), ""),)


class TestBirths(unittest.TestCase):

    def test_fresh(self):
        self.assertEqual(fresh_births(), BORDER)
        self.assertIs(type(fresh_births()), tuple)

    def test_example(self):
        with self.assertRaises(BadPlace) as caught:
            born(AB, 4, (2, 0), (1, 1), "no")
        self.assertEqual(caught.exception.at, 3)
        births = born(born(fresh_births(), 1, HEAD, END, "ab"), 3, (1, 0), END, "X")
        self.assertEqual(births, AB)

    def test_born_only_between(self):
        rng = rng_for("born")
        for _ in range(60):
            births = drawn_births(rng, rng.randint(0, 5))
            told = closed(births)
            for left in all_signs(births):
                for right in all_signs(births):
                    if (left, right) in told:
                        more = born(births=births, deed=7, left=left, right=right, text="q\n")
                        self.assertEqual(more, births + ((7, left, right, "q\n"),))
                        continue
                    with self.assertRaises(BadPlace) as caught:
                        born(births, 7, left, right, "q")
                    self.assertEqual(caught.exception.at, len(births))

    def test_is_sign(self):
        births = AB + ((4, (1, 1), END, "12345"),)
        signs = all_signs(births)
        for chunk in range(-2, 6):
            for index in range(-2, 8):
                self.assertIs(is_sign(births, (chunk, index)), (chunk, index) in signs)
        for thing in ANY_VALUES:
            right = thing in ((1, 0), (0, 0)) and not isinstance(thing, list)
            right = right and all(type(part) is int for part in thing)
            self.assertIs(is_sign(births, thing), right, thing)
        for thing in ((1, True), (True, 0), (0, False), (False, False), (1, 0, 0), [1, 0], (1,), "10", (1, "0"),
                      (1, (0,)), ((1, 0), 0), (1.0, 0), (1, None), (10 ** 9, 0), (1, 10 ** 9)):
            self.assertIs(is_sign(births=births, thing=thing), False, thing)
        self.assertIs(is_sign(fresh_births(), (0, 1)), True)
        self.assertIs(is_sign(fresh_births(), (0, 2)), False)
        self.assertIs(is_sign(fresh_births(), (1, 0)), False)

    def test_letters_and_sizes(self):
        births = AB + ((4, (1, 1), END, "1\n "),)
        self.assertEqual([chunk_size(births, chunk) for chunk in range(4)], [2, 2, 1, 3])
        letters = "".join(letter_of(births, sign) for sign in all_signs(births)[2:])
        self.assertEqual(letters, "abX1\n ")
        self.assertEqual(letter_of(births=births, sign=(3, 1)), "\n")
        self.assertEqual(chunk_size(births=births, chunk=0), 2)


class TestTold(unittest.TestCase):

    def test_examples(self):
        self.assertEqual(hops_of(AB, (1, 0), (2, 0)), (((1, 0), (2, 0)), ((1, 0), (1, 0))))
        self.assertEqual(hops_of(AB, (2, 0), (1, 1)), (((2, 0), (1, 1)), ((0, 1), (1, 1)), ((0, 1), (0, 0))))
        self.assertFalse(told_ahead(AB, (2, 0), (1, 1)))
        self.assertFalse(told_ahead(AB, (1, 1), (2, 0)))

    def check_hops(self, births, one, other):
        hops = hops_of(births, one, other)
        self.assertIs(type(hops), tuple)
        self.assertEqual(hops[0], (one, other))
        self.assertLessEqual(len(hops), len(births))
        for (v, w), after in zip(hops, hops[1:]):
            self.assertNotEqual(v[0], w[0])
            self.assertEqual(after, (v, births[w[0]][1]) if w[0] > v[0] else (births[v[0]][2], w))
        v, w = hops[-1]
        self.assertEqual(v[0], w[0])
        return v[1] < w[1] or v[1] == w[1] and len(hops) > 1

    def test_like_the_closed_relation(self):
        rng = rng_for("told")
        untold = 0
        for _ in range(250):
            births = drawn_births(rng, rng.randint(0, 6))
            told = closed(births)
            for one in all_signs(births):
                for other in all_signs(births):
                    expected = (one, other) in told
                    self.assertIs(told_ahead(births, one, other), expected)
                    self.assertIs(at_or_ahead(births, one, other), expected or one == other)
                    self.assertEqual(self.check_hops(births, one, other), expected)
                    untold += one != other and not expected and (other, one) not in told
        self.assertGreater(untold, 1000)

    def test_border_and_elders(self):
        rng = rng_for("g1")
        for _ in range(60):
            births = drawn_births(rng, rng.randint(1, 7))
            signs = all_signs(births)
            elder = births[:-1]
            for sign in signs:
                self.assertFalse(told_ahead(births, sign, sign))
                self.assertEqual(told_ahead(births, HEAD, sign), sign != HEAD)
                self.assertEqual(told_ahead(births, sign, END), sign != END)
            for one in all_signs(elder):
                for other in all_signs(elder):
                    self.assertEqual(told_ahead(births, one, other), told_ahead(elder, one, other))

    def test_by_name(self):
        self.assertIs(told_ahead(births=AB, one=(1, 0), other=(2, 0)), True)
        self.assertIs(at_or_ahead(births=AB, one=(2, 0), other=(2, 0)), True)
        self.assertEqual(hops_of(births=AB, one=HEAD, other=HEAD), ((HEAD, HEAD),))

    def test_long_chain(self):
        births = chain_births(200)
        self.assertEqual(len(births), 201)
        self.assertEqual(len(hops_of(births, (200, 0), (1, 0))), 200)
        self.assertTrue(told_ahead(births, (1, 0), (200, 0)))
        self.assertTrue(told_ahead(births, (200, 1), (1, 1)))
        self.assertFalse(told_ahead(births, (200, 0), (100, 0)))
        self.assertTrue(told_ahead(births, (100, 0), (200, 0)))


class TestLattice(unittest.TestCase):

    def test_example(self):
        self.assertEqual((meet_of(AB, (2, 0), (1, 1)), join_of(AB, (2, 0), (1, 1))), ((1, 0), (0, 1)))

    def test_like_the_closed_relation(self):
        rng = rng_for("lattice")
        hidden = 0
        for _ in range(150):
            births = drawn_births(rng, rng.randint(0, 7))
            told = closed(births)
            signs = all_signs(births)
            told |= {(sign, sign) for sign in signs}
            for one in signs:
                for other in signs:
                    below = [x for x in signs if (x, one) in told and (x, other) in told]
                    above = [x for x in signs if (one, x) in told and (other, x) in told]
                    meets = [x for x in below if all((y, x) in told for y in below)]
                    joins = [x for x in above if all((x, y) in told for y in above)]
                    self.assertEqual([meet_of(births, one, other)], meets)
                    self.assertEqual([join_of(births, one, other)], joins)
                    hidden += meets[0] not in (one, other, HEAD)
        self.assertGreater(hidden, 500)

    def test_one_sign(self):
        for sign in all_signs(AB):
            self.assertEqual(meet_of(births=AB, one=sign, other=sign), sign)
            self.assertEqual(join_of(births=AB, one=sign, other=sign), sign)
            self.assertEqual(meet_of(AB, HEAD, sign), HEAD)
            self.assertEqual(join_of(AB, sign, END), END)
            self.assertEqual(meet_of(AB, sign, END), sign)
            self.assertEqual(join_of(AB, HEAD, sign), sign)

    def test_long_chain(self):
        births = chain_births(200) + ((1, (50, 0), (50, 1), "q"),)
        self.assertEqual(meet_of(births, (201, 0), (200, 0)), (50, 0))
        self.assertEqual(join_of(births, (201, 0), (200, 1)), (50, 1))


if __name__ == "__main__":
    unittest.main()
