"""[49] where words lead."""

import itertools
import unittest

from deedstand.alphabet import ALPHABET, kind_of
from deedstand.errors import BadPlace
from deedstand.motions import WORDS, moved
from tests.test_sheets import refused
from tests.ways import drawn_text, rng_for


def kinds(text):
    return ["word" if kind_of(sign) in ("letter", "digit") else kind_of(sign) for sign in text]


def plain_moved(text, place, word):
    """[49] by rows, and by looking at each place whether it is the one."""
    rows = text.split("\n")
    line = text[:place].count("\n")
    begin = sum(len(row) + 1 for row in rows[:line])
    column = place - begin
    if word == "left":
        return place - 1 if place else place
    if word == "right":
        return place + 1 if place < len(text) else place
    if word == "up":
        return place if line == 0 else begin - len(rows[line - 1]) - 1 + min(column, len(rows[line - 1]))
    if word == "down":
        if line == len(rows) - 1:
            return place
        return begin + len(rows[line]) + 1 + min(column, len(rows[line + 1]))
    if word == "home":
        return begin
    if word == "end":
        return begin + len(rows[line])
    if word == "start":
        return 0
    if word == "finish":
        return len(text)
    return plain_word(text, place) if word == "word" else plain_back(text, place)


def plain_word(text, place):
    """The greatest place such that one class, and then spaces, lie between."""
    if text[place:place + 1] in ("", "\n"):
        return min(place + 1, len(text))
    found = [end for end in range(place, len(text) + 1) if is_word(kinds(text[place:end]), kinds(text)[place])]
    return max(found)


def is_word(between, kind):
    if kind == "blank":
        return set(between) <= {"blank"}
    many = len(list(itertools.takewhile(lambda other: other == kind, between)))
    return set(between[many:]) <= {"blank"}


def plain_back(text, place):
    if place == 0:
        return 0
    if text[place - 1] == "\n":
        return place - 1
    bare = len(text[:place].rstrip(" "))
    if bare == 0 or text[bare - 1] == "\n":
        return bare
    kind = kinds(text)[bare - 1]
    return min(begin for begin in range(bare) if set(kinds(text[begin:bare])) == {kind})


class TestMotions(unittest.TestCase):

    def test_words(self):
        self.assertEqual(WORDS, ("left", "right", "up", "down", "home", "end", "start", "finish", "word", "wordback"))
        self.assertIs(type(WORDS), tuple)

    def test_example(self):
        text = "ab  c\nd"
        got = moved(text, 0, "word"), moved(text, 5, "word"), moved(text, 4, "wordback"), moved(text, 7, "up")
        self.assertEqual(got, (4, 6, 0, 1))
        self.assertEqual(moved(text=text, place=7, word="home"), 6)

    def test_by_hand(self):
        text = "if x_1+=(2)  \n\n  y"
        words, at = [], 0
        while at < len(text):
            at = moved(text, at, "word")
            words.append(at)
        self.assertEqual(words, [3, 6, 9, 10, 13, 14, 15, 17, 18])
        back, at = [], len(text)
        while at > 0:
            at = moved(text, at, "wordback")
            back.append(at)
        self.assertEqual(back, [17, 15, 14, 13, 10, 9, 6, 3, 0])
        self.assertEqual([moved("ab\nc\nde", place, "down") for place in range(8)], [3, 4, 4, 5, 6, 5, 6, 7])
        self.assertEqual([moved("ab\nc\nde", place, "up") for place in range(8)], [0, 1, 2, 0, 1, 3, 4, 4])

    def test_every_place(self):
        texts = ["".join(signs) for many in range(6) for signs in itertools.product("a \n+", repeat=many)]
        texts += ["\n\n", "  ", "a9_Z", ".,;", ALPHABET, ALPHABET[::-1], " \n \n ", "\n a\n\n b \n"]
        rng = rng_for("motions")
        texts += [drawn_text(rng, 25, "aZ_0 \n.(") for _ in range(200)]
        for text in texts:
            for word in WORDS:
                for place in range(len(text) + 1):
                    self.assertEqual(moved(text, place, word), plain_moved(text, place, word), (text, place, word))

    def test_bad_places(self):
        for text in ("", "ab\n"):
            for word in WORDS:
                for wrong in (len(text) + 1, len(text) + 7, 10 ** 9):
                    refused(self, BadPlace, {"at": wrong}, moved, text, wrong, word)

    def test_longest(self):
        text = ("a" * 1999 + "\n") * 2
        self.assertEqual([moved(text, 3999, word) for word in WORDS],
                         [3998, 4000, 1999, 4000, 2000, 3999, 0, 4000, 4000, 2000])


if __name__ == "__main__":
    unittest.main()
