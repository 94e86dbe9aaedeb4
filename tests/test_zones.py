"""[42] strikes by zones and by led splices, G6 and the end of [4], against the sheet's own strike."""

import unittest

from deedstand.errors import TooMuch, Unsettled
from deedstand.ledways import led_strike
from deedstand.plainzones import plain_strike
from deedstand.sheets import Sheet
from tests.plainsheet import drawn_deed
from tests.ways import drawn_text, plain_spliced, rng_for

DEEDS = ((((0, 0, "ab"),),), (((1, 1, ""),),), (((1, 0, "X"),),))


def sheet_of(deeds):
    sheet = Sheet("s")
    for rounds in deeds:
        sheet.do(rounds)
    return sheet


def struck_on(sheet, deed):
    """The text after a strike on a trial of the sheet, or the word of its refusal."""
    trial = sheet.trial()
    try:
        trial.strike(deed)
    except (Unsettled, TooMuch) as error:
        return None, error.word()
    return trial.text(), None


def struck(deeds, which):
    return struck_on(sheet_of(deeds), which + 1)


class TestPlainStrike(unittest.TestCase):

    def test_example(self):
        self.assertEqual((plain_strike(DEEDS, 0), plain_strike(DEEDS, 1), plain_strike(DEEDS, 2)), ("X", None, "a"))
        self.assertEqual(plain_strike(deeds=DEEDS, which=2), "a")
        self.assertEqual(plain_strike(DEEDS[:1], 0), "")

    def test_several_rounds_and_touching_splices(self):
        first = (((0, 0, "abcdef"),),)
        rounds = (((1, 1, "P"), (2, 1, "Q"), (3, 1, "")), ((1, 1, ""), (3, 1, "R")))
        self.assertEqual(plain_strike((first, rounds), 1), "abcdef")
        self.assertEqual(plain_strike((first, rounds), 0), "QR")
        # What is put at an end of a zone lies outside only if a sign that stays lies between.
        text = "aQfR"
        self.assertEqual(struck((first, rounds, (((4, 0, "!"),),)), 1), (plain_strike(
            (first, rounds, (((4, 0, "!"),),)), 1), None))
        for at in range(len(text) + 1):
            deeds = (first, rounds, (((at, 0, "!"),),))
            self.assertEqual(plain_strike(deeds, 1), struck(deeds, 1)[0], at)

    def test_own_signs_only(self):
        # The deed cuts in its own signs alone, so nothing touches it, whatever is put there.
        deeds = ((((0, 0, "ab"),),), (((1, 0, "PQR"),), ((2, 1, ""),)), (((2, 0, "!"),),))
        self.assertEqual((plain_strike(deeds, 1), struck(deeds, 1)[0]), ("a!b", "a!b"))

    def test_none_for_the_number_of_nodes(self):
        deeds = tuple((((0, 0, "a"),),) for _ in range(299))
        self.assertEqual(plain_strike(deeds[:298], 297), "a" * 297)
        self.assertIsNone(plain_strike(deeds, 298))
        self.assertEqual(struck(deeds, 298), (None, "TooMuch"))
        self.assertEqual(struck(deeds[:298], 0), ("a" * 297, None))

    def test_none_for_the_text(self):
        for size in (2000, 2001):
            deeds = ((((0, 0, "a"),),), (((0, 0, "b" * 2000),),), (((0, 2000, ""),),), (((1, 0, "c" * (size - 1)),),))
            self.assertEqual(plain_strike(deeds, 2), struck(deeds, 2)[0])
            self.assertEqual(plain_strike(deeds, 2) is None, size == 2001)
            self.assertEqual(plain_strike(deeds, 1), "a" + "c" * (size - 1))

    def test_drawn(self):
        rng = rng_for("zones")
        seen = {None: 0, "Unsettled": 0}
        for _ in range(700):
            deeds, text = [], ""
            for _ in range(rng.randint(1, 7)):
                deeds.append(drawn_deed(rng, text, most=3, splices=4))
                for splices in deeds[-1]:
                    text = plain_spliced(text, splices)
            deeds = tuple(deeds)
            sheet = sheet_of(deeds)
            for which in range(len(deeds)):
                want, word = struck_on(sheet, which + 1)
                seen[word] += 1
                got = plain_strike(deeds, which)
                self.assertEqual(got, want, (deeds, which))
        self.assertTrue(min(seen.values()) > 300, seen)

    def test_longest(self):
        rng = rng_for("long zones")
        deeds, text = [(((0, 0, "abcdefghi\n" * 390),),)], "abcdefghi\n" * 390
        while len(deeds) < 25:
            many = rng.randint(1, 40)
            places = sorted(rng.sample(range(0, len(text) - 9, 9), many))
            splices = tuple((at, rng.randint(0, 3), rng.choice(("", "x", "yz"))) for at in places)
            splices = tuple(splice for splice in splices if splice[1] or splice[2]) or ((0, 1, ""),)
            deeds.append((splices,))
            text = plain_spliced(text, splices)
        deeds = tuple(deeds)
        sheet = sheet_of(deeds)
        for which in range(len(deeds)):
            self.assertEqual(plain_strike(deeds, which), struck_on(sheet, which + 1)[0])


def plain_led(text, splices, which):
    """[4] once more: a splice apart from the struck one lies wholly ahead of it or behind it, with a sign between."""
    at, cut, put = splices[which]
    for splice in splices[:which]:
        text = plain_spliced(text, (splice,))
    with_it = plain_spliced(text, ((at, cut, put),))
    for then, many, more in splices[which + 1:]:
        if then + many < at:
            text = text[:then] + more + text[then + many:]
            at += len(more) - many
        elif then > at + len(put):
            led = then - len(put) + cut
            text = text[:led] + more + text[led + many:]
        else:
            return None
        with_it = with_it[:then] + more + with_it[then + many:]
        assert with_it == text[:at] + put + text[at + cut:]
    return text


class TestLedStrike(unittest.TestCase):

    def test_by_hand(self):
        self.assertEqual(led_strike("abc", ((0, 1, "xy"), (3, 0, "d")), 0), "abdc")
        self.assertEqual(led_strike(text="abc", splices=((0, 1, "xy"), (3, 0, "d")), which=1), "xybc")
        self.assertEqual(led_strike("", ((0, 0, "a"),), 0), "")
        # Each kind of touching is refused, at both ends.
        for second in ((0, 1, ""), (1, 0, "d"), (3, 0, "d"), (2, 1, ""), (1, 2, "x"), (0, 4, "")):
            self.assertIsNone(led_strike("abcd", ((1, 1, "xy"), second), 0), second)
        self.assertEqual(led_strike("abcd", ((1, 1, "xy"), (4, 1, "")), 0), "abc")
        self.assertEqual(led_strike("abcd", ((1, 1, "xy"), (0, 0, "d")), 0), "dabcd")
        self.assertEqual(led_strike("abcd", ((3, 0, "x"), (0, 2, "q"), (1, 0, "r")), 0), "qrcd")

    def test_not_apart_only_as_it_is_by_then(self):
        # The second one moves the first one, so that the third one touches it only by then.
        splices = ((2, 0, "X"), (0, 0, "12"), (4, 0, "Y"))
        self.assertIsNone(led_strike("abcd", splices, 0))
        self.assertEqual(led_strike("abcd", ((2, 0, "X"), (0, 0, "12"), (6, 0, "Y")), 0), "12abcYd")
        self.assertEqual(led_strike("abcd", ((2, 0, "X"), (0, 0, "12"), (3, 0, "Y")), 0), "12aYbcd")

    def test_drawn(self):
        rng = rng_for("led strikes")
        led = 0
        for _ in range(1500):
            begin = drawn_text(rng, 12) + "0123456789"[:rng.randint(1, 10)]
            text, splices = begin, []
            for _ in range(rng.randint(1, 5)):
                at = rng.randint(0, len(text))
                cut = rng.randint(0, min(2, len(text) - at))
                put = drawn_text(rng, 2, "xy") or ("" if cut else "z")
                splices.append((at, cut, put))
                text = plain_spliced(text, splices[-1:])
            splices = tuple(splices)
            deeds = ((((0, 0, begin),),),) + tuple(((splice,),) for splice in splices)
            for which in range(len(splices)):
                got = led_strike(begin, splices, which)
                self.assertEqual(got, plain_led(begin, splices, which))
                if got is not None:
                    led += 1
                    self.assertEqual(struck(deeds, which + 1), (got, None))
                    self.assertEqual(plain_strike(deeds, which + 1), got)
        self.assertGreater(led, 1000)

    def test_longest(self):
        splices = tuple((10 * k, 1, "xy") for k in range(299))
        got = led_strike("a" * 4000, splices, 0)
        self.assertEqual(len(got), 4000 + 298)
        self.assertEqual(got, plain_led("a" * 4000, splices, 0))


if __name__ == "__main__":
    unittest.main()
