"""[26] papers, [27] refusals and judges, and what [28] says of them."""

import itertools
import unittest

from deedstand.chainpapers import chain_fits, chain_paper
from deedstand.hopping import hops_of
from deedstand.judges import choices_fit
from deedstand.keepers import own_keeper, shown_by
from deedstand.lattice import join_of, meet_of
from deedstand.refusals import two_choices, untold_stretch
from deedstand.settledrows import is_settled
from tests.ways import (
    AB, AB_CUTS, END, HEAD, all_signs, chain_births, closed, drawn_births, drawn_cuts, plain_laid, plain_shown,
    rng_for,
)


def steps_from(births, pair):
    """All pairs that may follow a pair in an entry."""
    (v, w) = pair
    found = []
    if w[0] >= 1:
        found.append((v, births[w[0]][1]))
    if v[0] >= 1:
        found.append((births[v[0]][2], w))
    return found


def plain_entry_fits(births, x, y, entry):
    """[26], word by word."""
    if not entry or entry[0] != (x, y):
        return False
    if any(after not in steps_from(births, before) for before, after in zip(entry, entry[1:])):
        return False
    (c, i), (d, j) = entry[-1]
    return c == d and (i < j or i == j and len(entry) >= 2)


def all_entries(births, x, y):
    """All chains of steps from (x, y), right at the end or not."""
    due = [((x, y),)]
    while due:
        entry = due.pop()
        yield entry
        due += [entry + (after,) for after in steps_from(births, entry[-1])]


class TestPapers(unittest.TestCase):

    def test_example(self):
        self.assertIs(chain_fits(AB, ((1, 1), (1, 1)), ((((1, 1), (1, 1)),),)), False)

    def test_paper_is_the_hops(self):
        rng = rng_for("papers")
        fits = {True: 0, False: 0}
        for _ in range(300):
            births = drawn_births(rng, rng.randint(0, 5))
            told = closed(births)
            signs = all_signs(births)
            row = tuple(rng.choice(signs) for _ in range(rng.randint(0, 3)))
            if rng.random() < 0.5:
                row = tuple(sign for sign in own_keeper(births) if rng.random() < 0.5)
            paper = chain_paper(births, row)
            self.assertIs(type(paper), tuple)
            self.assertEqual(paper, tuple(hops_of(births, x, y) for x, y in zip(row, row[1:])))
            right = all((x, y) in told for x, y in zip(row, row[1:]))
            self.assertIs(chain_fits(births, row, paper), right)
            fits[right] += 1
            if len(row) > 1 and right:
                self.spoil(births, row, paper)
        self.assertTrue(min(fits.values()) > 30)

    def spoil(self, births, row, paper):
        """The right paper with something left out, put in, turned or exchanged."""
        for wrong in (paper[:-1], paper[1:], paper + paper[-1:], ((),) + paper[1:], paper[:-1] + ((),), ()):
            self.assertIs(chain_fits(births, row, wrong), False)
        self.assertIs(chain_fits(births, row[::-1], paper[::-1]), False)
        self.assertIs(chain_fits(births, row[:-1], paper), False)
        self.assertIs(chain_fits(births, row + row[-1:], paper), False)
        for at, entry in enumerate(paper):
            others = [entry[1:], entry + entry[-1:], entry[::-1], entry[:1] + entry]
            others += [tuple((w, v) for v, w in entry), entry[:-1] + ((entry[-1][0], (99, 0)),)]
            others += [entry[:-1], entry[:-1] + (((99, 0), entry[-1][1]),), entry[:-1] + (((99, 0), (99, 1)),)]
            for other in others:
                expected = plain_entry_fits(births, row[at], row[at + 1], other)
                got = chain_fits(births, row, paper[:at] + (other,) + paper[at + 1:])
                self.assertIs(got, expected, (births, row, other))

    def test_all_entries_of_small_births(self):
        rng = rng_for("entries")
        seen = set()
        for _ in range(40):
            births = drawn_births(rng, 4)
            told = closed(births)
            for x, y in itertools.product(all_signs(births), repeat=2):
                any_fits = False
                for entry in all_entries(births, x, y):
                    expected = plain_entry_fits(births, x, y, entry)
                    self.assertIs(chain_fits(births, (x, y), (entry,)), expected)
                    any_fits = any_fits or expected
                    if expected and entry != hops_of(births, x, y):
                        seen.add("other way")
                self.assertEqual(any_fits, (x, y) in told)
        self.assertEqual(seen, {"other way"})

    def test_lesser_chunk_may_be_taken(self):
        births = ((0, HEAD, END, ""), (1, HEAD, END, "ab"), (1, (1, 0), (1, 1), "c"))
        way = (((1, 0), (2, 0)), ((0, 1), (2, 0)))
        self.assertIs(chain_fits(births, ((1, 0), (2, 0)), (way,)), False)
        way = (((2, 0), (1, 1)), ((2, 0), (0, 0)), ((1, 1), (0, 0)))
        self.assertIs(chain_fits(births, ((2, 0), (1, 1)), (way,)), False)
        births += ((1, (1, 1), END, "d"),)
        way = (((2, 0), (3, 0)), ((1, 1), (3, 0)), ((1, 1), (1, 1)))
        self.assertIs(chain_fits(births, ((2, 0), (3, 0)), (way,)), True)
        way = (((2, 0), (3, 0)), ((2, 0), (1, 1)), ((1, 1), (1, 1)))
        self.assertIs(chain_fits(births, ((2, 0), (3, 0)), (way,)), True)

    def test_border_is_never_left(self):
        for row, entry in (
            ((HEAD, (1, 0)), ((HEAD, (1, 0)), (END, (1, 0)))),
            ((HEAD, END), ((HEAD, END), (HEAD, HEAD))),
            ((HEAD, END), ((HEAD, END), (END, END))),
            ((HEAD, HEAD), ((HEAD, HEAD), (HEAD, HEAD))),
            (((1, 0), END), (((1, 0), END), ((1, 0), HEAD), (END, HEAD))),
        ):
            self.assertIs(chain_fits(births=AB, row=row, paper=(entry,)), False)
        self.assertIs(chain_fits(AB, (HEAD, END), (((HEAD, END),),)), True)
        self.assertIs(chain_fits(AB, (HEAD, (1, 0)), (((HEAD, (1, 0)), (HEAD, HEAD)),)), True)

    def test_short_rows(self):
        self.assertEqual(chain_paper(births=AB, row=()), ())
        self.assertEqual(chain_paper(AB, ((1, 0),)), ())
        for row in ((), ((1, 0),)):
            self.assertIs(chain_fits(AB, row, ()), True)
            self.assertIs(chain_fits(AB, row, ((),)), False)
            self.assertIs(chain_fits(AB, row, ((((1, 0), (1, 0)),),)), False)

    def test_numbers_that_no_birth_has(self):
        for entry in ((((9, 0), (9, 1)),), (((1, 0), (2, 0)), ((9, 9), (9, 9))),
                      (((1, 0), (2, 0)), ((1, 0), (1, 10 ** 9))), (((1, 0), (2, 0)), ((1, 0), (9, 0)), (HEAD, END))):
            self.assertIs(chain_fits(AB, ((1, 0), (2, 0)), (entry,)), False)

    def test_longest(self):
        births = chain_births(200)
        row = own_keeper(births)
        paper = chain_paper(births, row)
        self.assertEqual(len(row), 402)
        self.assertIs(chain_fits(births, row, paper), True)
        self.assertIs(chain_fits(births, row, paper[:-1] + (paper[-1][::-1] + paper[-1],)), False)


class TestRefusals(unittest.TestCase):

    def test_examples(self):
        self.assertIs(choices_fit(AB, AB_CUTS, 10, ((1, 1), (2, 0), (0, 1), (0, 0))), True)
        self.assertIsNone(two_choices(AB, AB_CUTS, 14))
        self.assertEqual(untold_stretch(AB, (2, 0), (1, 1)), ((1, 0), (0, 1)))

    def plain_fits(self, births, cuts, stand, thing):
        x, y, one, other = thing
        signs = all_signs(births)
        if x not in signs or y not in signs or len(one) != len(births) - 1 or len(other) != len(births) - 1:
            return False
        if not plain_shown(births, cuts, stand, x) or not plain_shown(births, cuts, stand, y):
            return False
        row, back = plain_laid(births, one), plain_laid(births, other)
        return row.index(x) < row.index(y) and back.index(y) < back.index(x)

    def test_two_choices(self):
        rng = rng_for("refusals")
        many = {True: 0, False: 0}
        for _ in range(200):
            births = drawn_births(rng, rng.randint(0, 7), longest=rng.choice((2, 5)))
            cuts = drawn_cuts(rng, births)
            kept = dict(cuts)
            told = closed(births)
            for stand in range(0, 16, 2):
                thing = two_choices(births, cuts, stand)
                settled = is_settled(births, cuts, stand)
                many[settled] += 1
                self.assertEqual(thing is None, settled)
                if settled:
                    continue
                self.assertIs(type(thing), tuple)
                x, y, one, other = thing
                self.assertTrue(type(one) is tuple and type(other) is tuple)
                self.assertTrue(set(one + other) <= {0, -1})
                self.assertTrue((x, y) not in told and (y, x) not in told)
                self.assertTrue(self.plain_fits(births, cuts, stand, thing))
                self.assertIs(choices_fit(births, cuts, stand, thing), True)
                self.spoil(births, cuts, stand, thing)
                self.assertEqual(untold_stretch(births, x, y), (meet_of(births, x, y), join_of(births, x, y)))
            self.assertEqual(cuts, kept)
        self.assertTrue(min(many.values()) > 200)

    def spoil(self, births, cuts, stand, thing):
        x, y, one, other = thing
        for wrong in (
            (y, x, one, other), (x, y, other, one), (x, x, one, other), (x, y, one[:-1], other),
            (x, y, one, other[:-1]), (x, y, one + (0,), other), (x, y, one, other + (0,)), (x, y, one, one),
            (HEAD, y, one, other), (x, END, one, other), ((99, 0), y, one, other), (x, (1, 99), one, other),
            ((10 ** 9, 10 ** 9), y, one, other),
        ):
            self.assertIs(choices_fit(births, cuts, stand, wrong), False)
        self.assertIs(choices_fit(births, cuts, stand, (y, x, other, one)), True)

    def test_any_choices(self):
        rng = rng_for("any choices")
        many = {True: 0, False: 0}
        for _ in range(4000):
            births = drawn_births(rng, rng.randint(0, 6), deeds=2)
            cuts = drawn_cuts(rng, births, chance=0.1)
            stand = rng.choice((2, 4, 6, 6, 6))
            signs = all_signs(births)[2 if rng.random() < 0.9 else 0:] or [HEAD, END]
            worth = (0, -1, 1, 2, 3, -2, 10 ** 9, -10 ** 9)
            thing = (rng.choice(signs), rng.choice(signs),
                     tuple(rng.choice(worth) for _ in births[1:]), tuple(rng.choice(worth) for _ in births[1:]))
            expected = self.plain_fits(births, cuts, stand, thing)
            self.assertIs(choices_fit(births, cuts, stand, thing), expected)
            many[expected] += 1
        self.assertTrue(min(many.values()) > 50, many)

    def test_each_untold_pair_is_laid_both_ways(self):
        rng = rng_for("pairs")
        for _ in range(60):
            births = drawn_births(rng, rng.randint(2, 6), longest=1, deeds=1)
            told = closed(births)
            signs = all_signs(births)[2:]
            for x, y in itertools.combinations(signs, 2):
                cuts = {2: tuple((chunk, index, 1) for chunk, index in signs if (chunk, index) not in (x, y))}
                thing = two_choices(births, cuts, 6)
                self.assertEqual(thing is None, (x, y) in told or (y, x) in told)
                if thing is not None:
                    self.assertEqual({thing[0], thing[1]}, {x, y})
                    self.assertIs(choices_fit(births, cuts, 6, thing), True)

    def test_nothing_fits_a_settled_stand(self):
        for births, cuts, stand in ((AB, AB_CUTS, 14), (AB, {}, 2), (AB, {4: ((2, 0, 1),)}, 26)):
            shown = shown_by(births, cuts, own_keeper(births), stand)
            for x, y in itertools.product(shown, repeat=2):
                for one, other in itertools.product(itertools.product((-1, 0, 1, 5), repeat=2), repeat=2):
                    self.assertIs(choices_fit(births, cuts, stand, (x, y, one, other)), False)

    def test_by_name(self):
        thing = two_choices(births=AB, cuts=AB_CUTS, stand=10)
        self.assertIs(choices_fit(births=AB, cuts=AB_CUTS, stand=10, thing=thing), True)
        self.assertEqual(untold_stretch(births=AB, one=(1, 1), other=(2, 0)), ((1, 0), (0, 1)))

    def test_longest(self):
        births = chain_births(199) + ((2, (1, 0), (1, 1), "ab"),)
        thing = two_choices(births, {}, 6)
        self.assertEqual([len(choices) for choices in thing[2:]], [200, 200])
        self.assertIs(choices_fit(births, {}, 6, thing), True)
        self.assertIsNone(two_choices(births, {}, 2))


if __name__ == "__main__":
    unittest.main()
