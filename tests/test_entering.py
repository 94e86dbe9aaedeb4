"""[50] what is put, cut, copied and pasted at settled picks, and [53]."""

import unittest

from deedstand.clips import clipped, paste_round
from deedstand.entering import ahead_cuts, back_cuts, put_round
from deedstand.errors import NoSuch
from deedstand.settling import settled_picks
from deedstand.splicing import check_round, spliced
from tests.test_picks import selected
from tests.test_sheets import refused
from tests.ways import drawn_text, rng_for


def low_high(pick):
    return (min(pick), max(pick))


def all_picks(size):
    """All settled picks of up to three of a text of size signs."""
    places = [(tail, head) for tail in range(size + 1) for head in range(size + 1)]
    found = {}
    for one in places:
        for other in places:
            for third in places:
                found[settled_picks((one, other, third))] = True
    return list(found)


def plain_put(text, picks, rows):
    """Pick by pick from the last one: the text, and each place as the texts are put."""
    places = []
    for pick, row in reversed(list(zip(picks, rows))):
        low, high = low_high(pick)
        text = text[:low] + row + text[high:]
        places = [place + len(row) - (high - low) for place in places] + [low + len(row)]
    return text, tuple(sorted(set(places)))


def plain_cut(text, picks, many, is_back):
    """The set of signs that are cut, sign by sign, and the places that are left."""
    gone = set()
    for pick in picks:
        low, high = low_high(pick)
        if low < high:
            gone |= set(range(low, high))
        else:
            gone |= {at for at in range(len(text)) if (low - many <= at < low if is_back else low <= at < low + many)}
    left = "".join(sign for at, sign in enumerate(text) if at not in gone)
    places = {min(pick) - len([at for at in gone if at < min(pick)]) for pick in picks}
    return left, tuple(sorted(places)), gone


class TestPut(unittest.TestCase):

    def test_examples(self):
        self.assertEqual(put_round(((0, 2), (3, 3), (6, 5)), "X"),
                         (((0, 2, "X"), (3, 0, "X"), (5, 1, "X")), (1, 3, 6)))
        self.assertEqual(put_round(((0, 2), (4, 2)), ""), (((0, 2, ""), (2, 2, "")), (0,)))
        self.assertEqual(put_round(picks=((1, 1),), text=""), ((), (1,)))
        self.assertEqual(put_round(((1, 1), (4, 3)), ""), (((3, 1, ""),), (1, 3)))

    def test_every_pick(self):
        text = "abcd"
        for picks in all_picks(4):
            for new in ("", "x", "yz\n"):
                got = put_round(picks, new)
                self.check(text, got, plain_put(text, picks, [new] * len(picks)))

    def check(self, text, got, want):
        splices, carets = got
        self.assertTrue(type(got) is tuple and type(splices) is tuple and type(carets) is tuple)
        if splices:
            self.assertIsNone(check_round(len(text), splices))
            text = spliced(text, splices)
        self.assertEqual((text, carets), want)


class TestCuts(unittest.TestCase):

    def test_examples(self):
        self.assertEqual(back_cuts(((1, 1), (3, 5), (6, 6)), "abcdefg", 2), (((0, 1, ""), (3, 3, "")), (0, 2)))
        self.assertEqual(ahead_cuts(((1, 1), (2, 2), (7, 7)), "abcdefg", 3), (((1, 4, ""),), (1, 3)))
        self.assertEqual(back_cuts(picks=((0, 0),), text="ab", many=1), ((), (0,)))
        self.assertEqual(ahead_cuts(picks=((2, 2),), text="ab", many=1), ((), (2,)))
        self.assertEqual(back_cuts(((2, 2),), "ab", 0), ((), (2,)))
        self.assertEqual(ahead_cuts(((0, 2), (4, 2)), "abcde", 1), (((0, 4, ""),), (0,)))
        self.assertEqual(back_cuts(((5, 5),), "abcde", 10 ** 9), (((0, 5, ""),), (0,)))
        self.assertEqual(ahead_cuts(((0, 0),), "abcde", 10 ** 9), (((0, 5, ""),), (0,)))

    def test_every_pick(self):
        text = "abcd"
        for picks in all_picks(4):
            for many in (0, 1, 2, 4, 9):
                self.check(text, picks, many, back_cuts(picks, text, many), True)
                self.check(text, picks, many, ahead_cuts(picks, text, many), False)

    def check(self, text, picks, many, got, is_back):
        splices, carets = got
        left, places, gone = plain_cut(text, picks, many, is_back)
        self.assertTrue(type(got) is tuple and type(splices) is tuple and type(carets) is tuple)
        self.assertEqual({at for low, cut, _ in splices for at in range(low, low + cut)}, gone)
        self.assertEqual((carets, {put for _, _, put in splices} - {""}), (places, set()))
        if splices:
            self.assertEqual(spliced(text, splices), left)
        # At least one sign stays between two splices.
        for (low, cut, _), (after, _, _) in zip(splices, splices[1:]):
            self.assertLess(low + cut, after)

    def test_longest(self):
        text = "ab\n" * 1333
        picks = tuple((k, k) for k in range(0, 3999, 40))
        for is_back, call in ((True, back_cuts), (False, ahead_cuts)):
            for many in (1, 39, 40, 4000):
                self.check(text, picks, many, call(picks, text, many), is_back)


class TestClips(unittest.TestCase):

    def test_examples(self):
        self.assertEqual(clipped("abcdef", ((0, 2), (3, 3), (6, 5))), ("ab", "", "f"))
        self.assertEqual(paste_round(((1, 1), (3, 3)), ("x", "yz")), (((1, 0, "x"), (3, 0, "yz")), (2, 6)))
        self.assertEqual(clipped(text="ab", picks=((2, 0),)), ("ab",))
        self.assertEqual(paste_round(picks=((1, 1),), rows=("x",)), (((1, 0, "x"),), (2,)))

    def test_only_carets(self):
        for picks in (((0, 0),), ((0, 0), (2, 2), (3, 3))):
            refused(self, NoSuch, {"what": "pick", "name": 0}, clipped, "abc", picks)

    def test_every_pick(self):
        text = "abcd"
        for picks in all_picks(4):
            if selected(picks):
                want = tuple(text[min(pick):max(pick)] for pick in picks)
                self.assertEqual(clipped(text, picks), want)
                self.assertIs(type(clipped(text, picks)), tuple)
                self.check_cut_and_paste(text, picks)
            for rows in (("x",), ("", "yz"), ("x", "\n", ""), ("", "", ""), ("", ""), ("",), ("a", "b", "c", "d")):
                each = rows if len(rows) == len(picks) and len(rows) > 1 else ["\n".join(rows)] * len(picks)
                splices, carets = paste_round(picks, rows)
                after = spliced(text, splices) if splices else text
                self.assertEqual((after, carets), plain_put(text, picks, each))
                self.assertEqual(all(cut or put for _, cut, put in splices), True)

    def check_cut_and_paste(self, text, picks):
        """[53], G9: the text comes back exactly if no two picks touch."""
        rows = clipped(text, picks)
        splices, carets = put_round(picks, "")
        cut = spliced(text, splices)
        back, _ = paste_round(tuple((place, place) for place in carets), rows)
        touch = any(max(one) == min(other) for one, other in zip(picks, picks[1:]))
        self.assertEqual(spliced(cut, back) == text, not touch, picks)

    def test_drawn(self):
        rng = rng_for("drawn clips")
        for _ in range(600):
            text = drawn_text(rng, 20, "0123456789abcdefgh\n") or "a"
            picks = settled_picks([(rng.randint(0, len(text)), rng.randint(0, len(text))) for _ in range(4)])
            rows = tuple(drawn_text(rng, 3) for _ in range(rng.randint(1, 5)))
            each = rows if len(rows) == len(picks) and len(rows) > 1 else ["\n".join(rows)] * len(picks)
            splices, carets = paste_round(picks, rows)
            self.assertEqual((spliced(text, splices) if splices else text, carets), plain_put(text, picks, each))


if __name__ == "__main__":
    unittest.main()
