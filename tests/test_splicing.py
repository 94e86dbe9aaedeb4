"""[16] and [17]: splices, rounds and moved places; [18] the least splice; [19] what follows."""

import itertools
import unittest

from deedstand.errors import BadSplice
from deedstand.leastsplice import least_splice
from deedstand.splicing import back_round, check_round, led_past, moved_place, spliced
from tests.ways import ANY_VALUES, drawn_round, drawn_text, plain_spliced, rng_for

ROUND = ((0, 1, "XY"), (1, 1, ""), (3, 0, "Z"))


def small_splices(size, texts=("", "x", "yz")):
    for at in range(size + 1):
        for cut in range(size - at + 1):
            for text in texts:
                if cut or text:
                    yield (at, cut, text)


def plain_moved(place, side, splice):
    """G5, word by word."""
    at, cut, text = splice
    if side == 0:
        if place <= at:
            return place
        if place > at + cut:
            return place - cut + len(text)
        return at
    if place < at:
        return place
    if place >= at + cut:
        return place - cut + len(text)
    return at + len(text)


class TestRounds(unittest.TestCase):

    def refused(self, size, splices, wrong):
        with self.assertRaises(BadSplice, msg=splices) as caught:
            check_round(size, splices)
        self.assertEqual(caught.exception.at, wrong, splices)

    def test_examples(self):
        got = (spliced("abcd", ROUND), back_round("abcd", ROUND))
        self.assertEqual(got, ("XYcZd", ((0, 2, "ab"), (3, 1, ""))))
        self.refused(4, ((1, 2, "a"), (2, 1, "b"), (9, 0, "")), 1)

    def test_wrong_values(self):
        self.refused(4, (), -1)
        for thing in ANY_VALUES:
            self.refused(4, (thing,), 0)
            self.refused(9, ((0, 1, "a"), thing), 1)
        for thing in (
            (True, 0, "a"), (0, True, "a"), (0, 0, ""), (0, 1, None), (-1, 0, "a"), (0, -1, "a"), [0, 1, "a"],
            (0, 0, "%"), (0, 0, "\t"), (0, 1, "a", 0), (0, 1), ("0", 1, "a"), (0, 1.0, "a"), (0, 0, b"a"),
            (0, 0, ("a",)), (None, None, None), ((0, 1, "a"),), (0, False, "a"), (False, 1, ""),
        ):
            self.refused(4, (thing,), 0)

    def test_beyond_the_text(self):
        self.assertIsNone(check_round(4, ((4, 0, "a"),)))
        self.assertIsNone(check_round(4, ((0, 4, ""),)))
        self.assertIsNone(check_round(0, ((0, 0, "a"),)))
        self.refused(4, ((5, 0, "a"),), 0)
        self.refused(4, ((0, 5, ""),), 0)
        self.refused(4, ((4, 1, ""),), 0)
        self.refused(0, ((0, 1, ""),), 0)
        self.refused(10, ((0, 1, ""), (10 ** 9, 0, "a")), 1)

    def test_sequence(self):
        self.assertIsNone(check_round(9, ((0, 2, "a"), (2, 0, "b"), (3, 1, ""))))
        self.refused(9, ((0, 0, "a"), (0, 1, "")), 1)
        self.refused(9, ((0, 2, ""), (1, 0, "a")), 1)
        self.refused(9, ((3, 0, "a"), (2, 0, "b"), (0, 0, "")), 1)
        self.refused(9, ((0, 1, ""), (1, 1, ""), (1, 1, "")), 2)
        self.refused(9, ((0, 1, ""), (1, 0, ""), (0, 1, "")), 1)
        self.refused(9, ((0, 1, ""), (2, 1, "")[:2], (0, 1, "")), 1)

    def test_spliced_refuses_alike(self):
        for splices in ((), ((0, 0, ""),), ((0, 5, ""),), ((1, 1, ""), (1, 0, "a"))):
            with self.assertRaises(BadSplice) as told:
                check_round(4, splices)
            with self.assertRaises(BadSplice) as caught:
                spliced("abcd", splices)
            self.assertEqual(caught.exception.at, told.exception.at)

    def test_all_short_rounds(self):
        seen = set()
        for text in ("", "a", "ab", "abc"):
            for splices in itertools.chain(itertools.product(small_splices(len(text)), repeat=1),
                                           itertools.product(small_splices(len(text)), repeat=2)):
                try:
                    check_round(len(text), splices)
                except BadSplice as error:
                    (at, cut, _), (then, _, _) = splices
                    self.assertEqual(error.at, 1)
                    self.assertTrue(then <= at or then < at + cut)
                else:
                    seen.add(len(splices))
                    self.check_one(text, splices)
        self.assertEqual(seen, {1, 2})

    def check_one(self, text, splices):
        after = spliced(text, splices)
        self.assertEqual(after, plain_spliced(text, splices))
        back = back_round(text, splices)
        self.assertIs(type(back), tuple)
        self.assertIsNone(check_round(len(after), back))
        self.assertEqual(spliced(after, back), text)
        for one, other in zip(back, back[1:]):
            self.assertLess(one[0] + one[1], other[0])
        self.assertEqual(sum(cut for _, cut, _ in back), sum(len(put) for _, _, put in splices))
        self.assertEqual("".join(put for _, _, put in back), "".join(text[at:at + cut] for at, cut, _ in splices))

    def test_drawn_rounds(self):
        rng = rng_for("rounds")
        for _ in range(1500):
            text = drawn_text(rng, 9)
            self.check_one(text, drawn_round(rng, len(text), most=5))

    def test_many_that_touch(self):
        splices = ((0, 1, "x"), (1, 1, ""), (2, 1, "yz"), (3, 1, "w"), (5, 0, "v"))
        self.assertEqual(back_round(text="abcdef", splices=splices), ((0, 4, "abcd"), (5, 1, "")))
        self.assertEqual(back_round("ab", ((0, 0, "x"), (1, 0, "y"))), ((0, 1, ""), (2, 1, "")))

    def test_longest(self):
        text = "ab" * 2000
        splices = tuple((20 * k, 20, "x" * (k + 1)) for k in range(200))
        self.assertIsNone(check_round(size=4000, splices=splices))
        after = spliced(text=text, splices=splices)
        self.assertEqual(after, "x" * 20100)
        self.assertEqual(back_round(text, splices), ((0, 20100, text),))
        apart = tuple((20 * k, 10, "y") for k in range(200))
        self.check_one(text, apart)
        self.assertEqual(len(back_round(text, apart)), 200)


class TestPlaces(unittest.TestCase):

    def test_examples(self):
        got = (moved_place(2, 0, ((0, 1, "xyz"), (2, 0, "w"))), moved_place(2, 1, ((1, 3, "ab"),)))
        self.assertEqual(got, (4, 3))
        got = (led_past((1, 2, "X"), (4, 1, "")), led_past((1, 2, "X"), (2, 0, "Y")))
        self.assertEqual(got, (((5, 1, ""), (1, 2, "X")), None))

    def test_one_splice(self):
        for splice in small_splices(4):
            for place in range(5):
                for side in (0, 1):
                    got = moved_place(place=place, side=side, splices=(splice,))
                    self.assertEqual(got, plain_moved(place, side, splice))

    def test_rounds_from_the_last(self):
        rng = rng_for("moved")
        for _ in range(1500):
            size = rng.randint(0, 8)
            splices = drawn_round(rng, size, most=4)
            after = size + sum(len(text) - cut for _, cut, text in splices)
            rows = []
            for side in (0, 1):
                row = []
                for place in range(size + 1):
                    expected = place
                    for splice in reversed(splices):
                        expected = plain_moved(expected, side, splice)
                    got = moved_place(place, side, splices)
                    self.assertEqual(got, expected)
                    self.assertTrue(0 <= got <= after)
                    row.append(got)
                self.assertEqual(row, sorted(row))
                rows.append(row)
            self.assertTrue(all(low <= high for low, high in zip(*rows)))

    def test_led_past_leads_to_one_text(self):
        text = "abcd"
        apart = touching = 0
        for first in small_splices(4):
            between = plain_spliced(text, (first,))
            for second in small_splices(len(between), ("", "v", "wx")):
                led = led_past(first, second)
                low = second[0] + second[1] < first[0]
                high = second[0] > first[0] + len(first[2])
                if not (low or high):
                    self.assertIsNone(led)
                    touching += 1
                    continue
                apart += 1
                ahead, behind = led
                self.assertIs(type(led), tuple)
                self.assertEqual(ahead[1:], second[1:])
                self.assertEqual(behind[1:], first[1:])
                self.assertEqual(second if low else first, ahead if low else behind)
                self.assertEqual(plain_spliced(plain_spliced(text, (ahead,)), (behind,)),
                                 plain_spliced(between, (second,)))
        self.assertTrue(apart > 100 and touching > 100)

    def test_bounds_of_apart(self):
        self.assertIsNone(led_past(first=(2, 1, "xy"), second=(4, 1, "")))
        self.assertEqual(led_past((2, 1, "xy"), (5, 0, "z")), ((4, 0, "z"), (2, 1, "xy")))
        self.assertIsNone(led_past((2, 1, "xy"), (0, 2, "")))
        self.assertEqual(led_past((2, 1, "xy"), (0, 1, "")), ((0, 1, ""), (1, 1, "xy")))
        self.assertEqual(led_past((2, 0, "x"), (0, 1, "abc")), ((0, 1, "abc"), (4, 0, "x")))


class TestLeastSplice(unittest.TestCase):

    def test_examples(self):
        got = (least_splice("aa", "a"), least_splice("abcb", "abb"), least_splice("axb", "ayzb"))
        self.assertEqual(got, ((1, 1, ""), (2, 1, ""), (1, 1, "yz")))

    def test_least_of_all(self):
        texts = ["".join(signs) for many in range(5) for signs in itertools.product("a\n", repeat=many)]
        for before in texts:
            for after in texts:
                found = least_splice(before, after)
                if before == after:
                    self.assertIsNone(found)
                    continue
                at, cut, text = found
                self.assertIs(type(found), tuple)
                self.assertEqual(spliced(before, (found,)), after)
                begin = 0
                while before[:begin + 1] == after[:begin + 1] and begin < min(len(before), len(after)):
                    begin += 1
                self.assertEqual(at, begin)
                costs = [len(before) - p - s + len(after) - p - s
                         for p in range(min(len(before), len(after)) + 1)
                         for s in range(min(len(before), len(after)) - p + 1)
                         if before[:p] == after[:p] and before[len(before) - s:] == after[len(after) - s:]]
                self.assertEqual(cut + len(text), min(costs))

    def test_ends(self):
        self.assertEqual(least_splice("", "ab"), (0, 0, "ab"))
        self.assertEqual(least_splice(before="ab", after=""), (0, 2, ""))
        self.assertEqual(least_splice("aaa", "aaaa"), (3, 0, "a"))
        self.assertEqual(least_splice("abab", "ab"), (2, 2, ""))
        self.assertIsNone(least_splice("", ""))

    def test_longest(self):
        self.assertEqual(least_splice("a" * 4000, "a" * 3999), (3999, 1, ""))
        self.assertEqual(least_splice("a" * 3999 + "b", "b" + "a" * 3999), (0, 4000, "b" + "a" * 3999))
        self.assertEqual(least_splice("x" + "a" * 3999, "y" + "a" * 3999), (0, 1, "y"))


if __name__ == "__main__":
    unittest.main()
