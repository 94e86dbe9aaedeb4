"""[54] to [56] patterns that are read and written, every index of BadPattern, every limit."""

import itertools
import unittest

from deedstand.alphabet import ALPHABET
from deedstand.errors import BadPattern, TooMuch
from deedstand.machines import state_many
from deedstand.patternreading import read_pattern
from deedstand.patterntrees import bits_of, holds
from deedstand.patternwriting import written
from tests.patternways import LETTERS_AND_DIGITS, alone, drawn_pattern, in_class, plain_fault
from tests.test_sheets import refused
from tests.ways import rng_for

SPECIAL = ".^$\\[]()*+?{}|"
ANY = bits_of(ALPHABET) - 1
A, B = ("sign", bits_of("a")), ("sign", bits_of("b"))
EMPTY = ("row", ())


def fault_of(text):
    """The index that read_pattern tells, None if it reads the text."""
    try:
        read_pattern(text)
    except BadPattern as error:
        assert type(error.at) is int
        return error.at
    except TooMuch:
        pass
    return None


class TestBits(unittest.TestCase):

    def test_bits(self):
        self.assertEqual((bits_of("\n !"), bits_of(""), bits_of(signs="aab")), (7, 0, 3 << 65))
        self.assertEqual(bits_of(ALPHABET), 2 ** 95 - 1)
        self.assertEqual(bits_of(ALPHABET[::-1] * 2), 2 ** 95 - 1)
        for code, sign in enumerate(ALPHABET):
            self.assertEqual(bits_of(sign), 2 ** code)
            for bits in (0, 2 ** code, 2 ** 95 - 1, 2 ** 95 - 1 - 2 ** code, 5 ** 40 % 2 ** 95):
                self.assertIs(holds(bits, sign), bool(bits // 2 ** code % 2))
        self.assertIs(holds(bits=4, sign="!"), True)


class TestSigns(unittest.TestCase):

    def test_each_sign_alone(self):
        for sign in ALPHABET:
            for text in (sign, sign + "?", "(" + sign + ")"):
                if sign not in SPECIAL:
                    tree = ("sign", bits_of(sign))
                    self.assertEqual(read_pattern(text), ("times", tree, 0, 1) if text.endswith("?") else tree)
        self.assertEqual([read_pattern(sign) for sign in ".^$|"],
                         [("sign", ANY), ("start",), ("finish",), ("choice", (EMPTY, EMPTY))])
        for sign in "])*+?{}":
            self.assertEqual(fault_of(sign), 0)
        for sign in "\\[(":
            self.assertEqual(fault_of(sign), 1)

    def test_each_sign_behind_a_backslash(self):
        for sign in ALPHABET:
            for begin, end, at in (("\\", "", 1), ("[\\", "]", 2), ("[^\\", "]", 3), ("a\\", "b", 2)):
                text = begin + sign + end
                if sign in LETTERS_AND_DIGITS and sign != "n":
                    self.assertEqual(fault_of(text), at)
                else:
                    bits = bits_of("\n" if sign == "n" else sign)
                    want = {"\\": ("sign", bits), "[\\": ("sign", bits), "[^\\": ("sign", ANY & ~bits),
                            "a\\": ("row", (A, ("sign", bits), B))}[begin]
                    self.assertEqual(read_pattern(text), want)

    def test_each_sign_in_a_class(self):
        for sign in ALPHABET:
            for begin, end in (("[", "]"), ("[^", "]"), ("[a", "]"), ("[a", "b]"), ("[ab-c", "d]")):
                text = begin + sign + end
                if sign in "]\\^-":
                    continue
                bits = bits_of(text.strip("[^]").replace("b-c", "bc") + sign)
                self.assertEqual(read_pattern(text), ("sign", ANY & ~bits if "^" in begin else bits))
        for text, want in (("[]", 1), ("[^]", 2), ("[^^]", 2), ("[-a]", 1), ("[^-a]", 2), ("[a-]", 3), ("[a^]", 2),
                           ("[a-b-c]", 4), ("[a--]", 3), ("[a-^]", 3), ("[]a]", 1), ("[a]]", 3), ("[a\\]", 4),
                           ("[a", 2), ("[", 1), ("[^", 2), ("[a-", 3), ("[a-\\", 4), ("[a-b", 4)):
            self.assertEqual(fault_of(text), want, text)

    def test_every_range(self):
        for low, first in enumerate(ALPHABET):
            for high, last in enumerate(ALPHABET):
                text = "[" + in_class(first) + "-" + in_class(last) + "]"
                if low <= high:
                    self.assertEqual(read_pattern(text), ("sign", 2 ** (high + 1) - 2 ** low))
                else:
                    self.assertEqual(fault_of(text), len(text) - 2)

    def test_classes(self):
        for text, signs in (("[a-cx]", "abcx"), ("[xa-c]", "abcx"), ("[a-ca-c]", "abc"), ("[a-a]", "a"),
                            ("[\\^\\-\\]\\\\]", "^-]\\"), ("[.*$|(){}[?+]", ".*$|(){}[?+"), ("[\n]", "\n"),
                            ("[\\n- ]", "\n "), ("[a-cb-d]", "abcd"),
                            ("[\\--\\]]", ALPHABET[ALPHABET.index("-"):ALPHABET.index("^")])):
            self.assertEqual(read_pattern(text), ("sign", bits_of(signs)))
            self.assertEqual(read_pattern("[^" + text[1:]), ("sign", ANY & ~bits_of(signs)))
        self.assertEqual(read_pattern("[^\\n]"), read_pattern("."))
        self.assertEqual(read_pattern("[^ -~]"), ("sign", 0))
        self.assertEqual(read_pattern("[\\n-~]"), ("sign", 2 ** 95 - 1))


class TestForms(unittest.TestCase):

    def test_branches_and_brackets(self):
        for text, tree in (
            ("", EMPTY), ("()", EMPTY), ("(())", EMPTY), ("|", ("choice", (EMPTY, EMPTY))),
            ("||", ("choice", (EMPTY,) * 3)), ("(|)", ("choice", (EMPTY, EMPTY))), ("a|", ("choice", (A, EMPTY))),
            ("|a", ("choice", (EMPTY, A))), ("ab", ("row", (A, B))), ("(a)b", ("row", (A, B))),
            ("(ab)", ("row", (A, B))), ("(ab)a", ("row", (("row", (A, B)), A))), ("()()", ("row", (EMPTY, EMPTY))),
            ("()a", ("row", (EMPTY, A))), ("(a|b)", ("choice", (A, B))),
            ("ab|()", ("choice", (("row", (A, B)), EMPTY))),
            ("(a|b)|a", ("choice", (("choice", (A, B)), A))), ("a|b|a", ("choice", (A, B, A))),
            ("(a|b)a", ("row", (("choice", (A, B)), A))), ("^a$", ("row", (("start",), A, ("finish",)))),
            ("^*", ("times", ("start",), 0, None)), ("()+", ("times", EMPTY, 1, None)),
            ("(|a)?", ("times", ("choice", (EMPTY, A)), 0, 1)), ("(a*)*", ("times", ("times", A, 0, None), 0, None)),
            ("a*b", ("row", (("times", A, 0, None), B))), ("a|b*", ("choice", (A, ("times", B, 0, None)))),
        ):
            self.assertEqual(read_pattern(text), tree, text)
        self.assertEqual(read_pattern(text="a"), A)

    def test_repeats(self):
        for text, least, most in (
            ("*", 0, None), ("+", 1, None), ("?", 0, 1), ("{1}", 1, 1), ("{29}", 29, 29), ("{30}", 30, 30),
            ("{0,}", 0, None), ("{1,}", 1, None), ("{29,}", 29, None), ("{30,}", 30, None), ("{0,1}", 0, 1),
            ("{0,30}", 0, 30), ("{1,1}", 1, 1), ("{1,29}", 1, 29), ("{30,30}", 30, 30), ("{2,10}", 2, 10),
            ("{9,10}", 9, 10),
        ):
            self.assertEqual(read_pattern("a" + text), ("times", A, least, most))
            self.assertEqual(read_pattern("()" + text), ("times", EMPTY, least, most))
            # A second repeat cannot stand, whatever it is.
            for more in ("*", "+", "?", "{1}"):
                self.assertEqual(fault_of("a" + text + more), 1 + len(text))
            for ahead in ("", "|", "(", "a|", "a("):
                self.assertEqual(fault_of(ahead + text), len(ahead))

    def test_wrong_bounds(self):
        for text, want in (
            ("a{31}", 2), ("a{31,}", 2), ("a{31,40}", 2), ("a{31", 2), ("a{100", 2), ("a{99x", 2), ("a{0}", 2),
            ("a{0,0}", 4), ("a{1,0}", 4), ("a{1,31}", 4), ("a{1,31", 4), ("a{2,1}", 4), ("a{2,1", 4), ("a{30,29}", 5),
            ("a{10,9", 5), ("a{10,9x", 5), ("a{00}", 3), ("a{01}", 3), ("a{0", 3), ("a{0,", 4), ("a{0,01}", 4),
            ("a{1,01}", 4), ("a{", 2), ("a{}", 2), ("a{,}", 2), ("a{,1}", 2), ("a{-1}", 2), ("a{x}", 2), ("a{1", 3),
            ("a{1x}", 3), ("a{1,", 4), ("a{1,x}", 4), ("a{1,,}", 4), ("a{1,2", 5), ("a{1,2,}", 5), ("a{1,2x", 5),
            ("a{ 1}", 2), ("a{1 }", 3), ("a{1, 2}", 4), ("a{30", 4), ("a{3", 3), ("a{0x", 3), ("a{1,30", 6),
            ("a{300000000000000000000000000000}", 2), ("a{1,99999999999999999999}", 4), ("a{1,0x", 4), ("a{1,0", 4),
        ):
            self.assertEqual((fault_of(text), plain_fault(text)), (want, want), text)

    def test_depth(self):
        for inner in ("", "a", "a|b", "[(]"):
            self.assertEqual(read_pattern("(" * 20 + inner + ")" * 20), read_pattern(inner))
            self.assertEqual(fault_of("(" * 21 + inner + ")" * 21), 20)
            self.assertEqual(fault_of("(" * 25), 20)
            self.assertEqual(fault_of("(" * 20), 20)
            self.assertEqual(fault_of("(" * 20 + ")" * 19), 39)
            self.assertEqual(fault_of("(" * 20 + ")" * 21), 40)
        tree = A
        for _ in range(20):
            tree = ("times", tree, 0, 1)
        self.assertEqual(read_pattern("(" * 19 + "a" + "?)" * 19 + "?"), tree)
        self.assertEqual(read_pattern("(" * 20 + "a" + ")?" * 20), tree)
        self.assertEqual(read_pattern("()" * 100), ("row", (EMPTY,) * 100))

    def test_limits(self):
        self.assertEqual(read_pattern("a" * 200), ("row", (A,) * 200))
        for text in ("a" * 201, "(" * 201, "\\_" * 101, "*" * 201):
            refused(self, TooMuch, {"what": "pattern"}, read_pattern, text)
        refused(self, BadPattern, {"at": 199}, read_pattern, "a" * 199 + ")")
        # 50 * 30 states, and one more.
        self.assertEqual(state_many(read_pattern("(" + "a" * 50 + "){30}")), 1500)
        for more in ("a", "|", "^", "a?"):
            refused(self, TooMuch, {"what": "states"}, read_pattern, "(" + "a" * 50 + "){30}" + more)
        refused(self, BadPattern, {"at": 56}, read_pattern, "(" + "a" * 51 + "){30*")
        refused(self, BadPattern, {"at": 64}, read_pattern, "((" + "a" * 51 + "){30}){30}(")
        deep = "a"
        for _ in range(20):
            deep = "(" + deep + "{30})"
        refused(self, TooMuch, {"what": "states"}, read_pattern, deep)
        nothing = "()"
        for _ in range(19):
            nothing = "(" + nothing + "{30})"
        self.assertEqual(state_many(read_pattern(nothing)), 0)


class TestFaults(unittest.TestCase):

    def check(self, text):
        want = plain_fault(text)
        self.assertEqual(fault_of(text), want, text)

    def patterns(self):
        rng = rng_for("right patterns")
        texts = ["(a|b)*c{2,13}[a-c\\]]|\\n^$.", "[^\\^\\-x-~]{0,30}(()|a?){29,}", "a{10,12}b{3}c{0,1}", "((((a))))",
                 "[\\n-\\\\]+", "x[a-\\~]y"]
        while len(texts) < 60:
            text = drawn_pattern(rng, 2, "ab-]^\n019n\\{")
            if 4 <= len(text) <= 25:
                texts.append(text)
        return texts

    def test_every_beginning(self):
        for text in self.patterns():
            self.assertIsNone(plain_fault(text))
            self.assertIsNone(fault_of(text))
            for end in range(len(text) + 1):
                self.check(text[:end])

    def test_every_sign_exchanged(self):
        for text in self.patterns():
            for at in range(len(text)):
                for sign in ALPHABET:
                    self.check(text[:at] + sign + text[at + 1:])

    def test_every_sign_put_in_or_left_out(self):
        for text in self.patterns():
            for at in range(len(text) + 1):
                self.check(text[:at] + text[at + 1:])
                for sign in ALPHABET:
                    self.check(text[:at] + sign + text[at:])

    def test_what_can_begin_a_pattern(self):
        """The index is the least one such that nothing goes on from there: against all short patterns."""
        for signs, shown in (("a(|)[]\\-", 2), ("a{1,0}", 4), ("[^]b-a", 3), ("[\\]-n", 3)):
            begins = set()
            for many in range(7):
                for text in map("".join, itertools.product(signs, repeat=many)):
                    if fault_of(text) is None:
                        begins |= {text[:end] for end in range(shown + 1)}
            for many in range(shown + 1):
                for text in map("".join, itertools.product(signs, repeat=many)):
                    least = [at for at in range(many) if text[:at + 1] not in begins]
                    want = least[0] if least else None if fault_of(text) is None else many
                    if "{" not in signs:
                        self.assertEqual(fault_of(text), want, text)
                    elif not any(number in text for number in ("{0}", "{1,0", "{0,0", "{11", "{10")):
                        self.assertEqual(fault_of(text), want, text)

    def test_drawn(self):
        rng = rng_for("wrong patterns")
        for _ in range(4000):
            self.check("".join(rng.choice("aab()|[]^-\\{}0123,,*+?n.$ ") for _ in range(rng.randint(1, 14))))


class TestWritten(unittest.TestCase):

    def check(self, text):
        tree = read_pattern(text)
        got = written(tree)
        self.assertIs(type(got), str)
        self.assertEqual(read_pattern(got), tree, (text, got))
        return got

    def test_by_hand(self):
        self.assertEqual([written(tree) for tree in (EMPTY, A, ("sign", 1), ("start",), ("finish",), ("sign", ANY))],
                         ["", "a", "\\n", "^", "$", "."])
        self.assertEqual(written(tree=("choice", (A, EMPTY, ("row", (A, B))))), "a||ab")
        for text in ("(a|b)c", "(a|b)|c", "a|(b|c)", "((a*)*)*", "(ab)*", "(ab)c", "a(bc)", "()a", "()*", "()|", "|()",
                     "(|)", "(()|)", "a{3}", "a{3,}", "a{0,2}", "a{1,2}", "a{0,30}", "^*$+", "(a{2}){3}", "a{1}"):
            self.assertTrue(len(self.check(text)) <= len(text))

    def test_each_sign(self):
        for sign in ALPHABET:
            self.assertEqual(self.check(alone(sign)), "\\n" if sign == "\n" else alone(sign))
            self.check("[^" + in_class(sign) + "]")
            self.check("a" + alone(sign) + "b")

    def test_every_range(self):
        for low, first in enumerate(ALPHABET):
            for last in ALPHABET[low:]:
                for begin in ("[", "[^"):
                    self.check(begin + in_class(first) + "-" + in_class(last) + "]")

    def test_all_but_one(self):
        """Classes of nearly all signs, with the feed, which no class with ^ takes, and without it."""
        for sign in ALPHABET:
            code = ALPHABET.index(sign)
            for begin in range(2):
                parts = ""
                for run in (ALPHABET[begin:code], ALPHABET[code + 1:]):
                    if run:
                        parts += in_class(run[0]) + "-" + in_class(run[-1])
                bits = bits_of(ALPHABET[begin:].replace(sign, ""))
                self.assertEqual(read_pattern("[" + parts + "]"), ("sign", bits))
                self.check("[" + parts + "]")
                self.check("[^" + parts + "]")

    def test_drawn(self):
        rng = rng_for("written")
        tried = 0
        while tried < 4000:
            text = drawn_pattern(rng, rng.randint(0, 4), rng.choice(("ab\n", ALPHABET, "]\\^-[.$")))
            if len(text) <= 40:
                try:
                    got = self.check(text)
                except TooMuch:
                    continue
                tried += 1
                # Each sign may be doubled, but no bracket is ever put that was not there.
                self.assertTrue(len(got) <= 80 and len(got.replace("\\", "")) <= len(text) + text.count("\n"))

    def test_forty_signs(self):
        texts = ["\n" * 40, "()" * 20, "|" * 40, "(" * 20 + ")" * 20, "[\\]-\\^]" * 5, "[^\\n-\\^]{30}" * 3, "\\." * 20,
                 "[\n\\n]" * 8, "(" * 13 + "a" + "?)" * 13, "a?" * 20, "[^a]" * 10, "(a|)" * 10, "(|||)" * 8, "^$" * 20]
        rng = rng_for("forty signs")
        for _ in range(100):
            class_of = "".join(in_class(sign) for sign in rng.sample(ALPHABET, 20))
            texts += ["[" + class_of + "]", "[^" + class_of + "]"]
        for text in texts:
            self.assertLessEqual(len(text), 50)
            self.assertLessEqual(len(self.check(text)), 200)


if __name__ == "__main__":
    unittest.main()
