"""[59] hits, [60] what they are exchanged by, [61], G10."""

import itertools
import unittest

from deedstand.errors import BadText
from deedstand.filling import filled
from deedstand.findhits import all_hits, first_hit, last_hit, next_hit
from deedstand.hitrounds import sub_round
from deedstand.machines import machine_of, state_many
from deedstand.patternreading import read_pattern
from deedstand.splicing import check_round, spliced
from tests.patternways import drawn_pattern, walked_ends
from tests.test_machines import PATTERNS, TEXTS, drawn_machine
from tests.test_sheets import refused
from tests.ways import drawn_text, rng_for


def compiled(text):
    return machine_of(read_pattern(text))


def hits_at(machine, text):
    """From each place that has an end to its greatest one."""
    ends = [walked_ends(machine, text, at) for at in range(len(text) + 1)]
    return {at: found[-1] for at, found in enumerate(ends) if found}


def plain_next(hits, behind):
    """The least begin from a place on, but no empty hit at this place."""
    begins = [at for at in sorted(hits) if at >= behind and (at, hits[at]) != (behind, behind)]
    return (begins[0], hits[begins[0]]) if begins else None


def plain_all(hits):
    found = [(at, hits[at]) for at in sorted(hits)][:1]
    while found:
        more = plain_next(hits, found[-1][1])
        if more is None:
            return tuple(found)
        found.append(more)
    return ()


class TestHits(unittest.TestCase):

    def test_example(self):
        machine = compiled("!*")
        self.assertEqual(all_hits(machine, "#!!#"), ((0, 0), (1, 3), (4, 4)))
        self.assertEqual([first_hit(machine, "#!!#", at) for at in range(5)], [(0, 0), (1, 3), (2, 3), (3, 3), (4, 4)])
        self.assertEqual([next_hit(machine, "#!!#", at) for at in range(5)], [(1, 3), (1, 3), (2, 3), (4, 4), None])
        self.assertEqual([last_hit(machine, "#!!#", at) for at in range(5)], [None, (0, 0), (1, 3), (2, 3), (3, 3)])

    def test_by_name(self):
        machine = compiled("a")
        self.assertEqual((first_hit(machine=machine, text="aba", at=1), last_hit(machine=machine, text="aba", before=2),
                          next_hit(machine=machine, text="aba", behind=1), all_hits(machine=machine, text="aba")),
                         ((2, 3), (0, 1), (2, 3), ((0, 1), (2, 3))))

    def test_ends_beyond(self):
        # The end of the last hit may be beyond the place before.
        self.assertEqual(last_hit(compiled("abc"), "abcabc", 4), (3, 6))
        self.assertEqual(last_hit(compiled("a*"), "aaa", 2), (1, 3))
        self.assertEqual(first_hit(compiled("^"), "a\nb", 1), (2, 2))
        self.assertEqual(all_hits(compiled("^|$"), "a\n\nb"), ((0, 0), (1, 1), (2, 2), (3, 3), (4, 4)))
        self.assertEqual(all_hits(compiled("^"), ""), ((0, 0),))
        self.assertEqual(all_hits(compiled("a"), ""), ())
        self.assertEqual(all_hits(compiled("\\n"), "\n\n"), ((0, 1), (1, 2)))
        # The longest one, whatever branch is first.
        self.assertEqual(all_hits(compiled("a|ab|abc"), "abcab"), ((0, 3), (3, 5)))
        self.assertEqual(all_hits(compiled("ab|[bc]+"), "abcc"), ((0, 2), (2, 4)))

    def check(self, machine, text):
        hits = hits_at(machine, text)
        for at in range(len(text) + 1):
            begins = [begin for begin in sorted(hits) if begin >= at]
            self.assertEqual(first_hit(machine, text, at), (begins[0], hits[begins[0]]) if begins else None)
            begins = [begin for begin in sorted(hits) if begin < at]
            self.assertEqual(last_hit(machine, text, at), (begins[-1], hits[begins[-1]]) if begins else None)
            self.assertEqual(next_hit(machine, text, at), plain_next(hits, at))
        got = all_hits(machine, text)
        self.assertIs(type(got), tuple)
        self.assertEqual(got, plain_all(hits))
        for (begin, end), (after, beyond) in zip(got, got[1:]):
            self.assertTrue(begin < after and end <= after and (after, beyond) != (end, end))
        return len(got)

    def test_patterns(self):
        for pattern in PATTERNS:
            machine = compiled(pattern)
            for text in TEXTS:
                self.check(machine, text)

    def test_drawn(self):
        rng = rng_for("hits")
        found = 0
        for _ in range(500):
            text = drawn_pattern(rng, 2)
            if len(text) < 40 and state_many(read_pattern(text)) < 100:
                found += self.check(compiled(text), drawn_text(rng, 9))
            found += self.check(drawn_machine(rng, rng.randint(1, 8)), drawn_text(rng, 9))
        self.assertGreater(found, 1000)

    def test_longest(self):
        text = "ab c\n" * 800
        self.assertEqual(all_hits(compiled("[a-z]+"), text),
                         tuple(hit for k in range(0, 4000, 5) for hit in ((k, k + 2), (k + 3, k + 4))))
        self.assertEqual(len(all_hits(compiled(""), text)), 4001)
        # No run goes twice where an earlier one has been.
        for pattern in ("a*b", "(a|aa|aaa)*(b|c)", ".*x", "(.|\\n)*y"):
            machine = compiled(pattern)
            self.assertEqual((first_hit(machine, "a" * 4000, 0), last_hit(machine, "a" * 4000, 4000)), (None, None))
            self.assertEqual((next_hit(machine, "a" * 4000, 0), all_hits(machine, "a" * 4000)), (None, ()))
        machine = compiled("((a?){30}){24}b|a")
        self.assertEqual(len(all_hits(machine, "a" * 1000)), 1000)


class TestFilled(unittest.TestCase):

    def test_by_hand(self):
        for new, hit, want in (("", "x", ""), ("&", "x", "x"), ("&&", "ab", "abab"), ("\\&", "x", "&"),
                               ("\\\\", "x", "\\"),
                               ("\\n", "x", "\n"), ("a&b", "", "ab"), ("\\\\&", "x", "\\x"), ("\\\\\\&", "x", "\\&"),
                               ("&", "&\\n\\", "&\\n\\"), ("\\n&\\n", "\n", "\n\n\n"), ("n&", "n", "nn"),
                               ("a\nb", "x", "a\nb"), ("\\\\n", "x", "\\n")):
            self.assertEqual(filled(new, hit), want)
        self.assertEqual(filled(new="<&>", hit="a"), "<a>")

    def test_wrong(self):
        for new, at in (("\\", 0), ("a\\", 1), ("\\a", 0), ("\\N", 0), ("&\\x\\", 1), ("\\\\\\", 2), ("\\&\\", 2),
                        ("\\ ", 0), ("\\\n", 0), ("\\n\\n\\m", 4), ("\\$", 0)):
            for hit in ("", "x"):
                refused(self, BadText, {"at": at}, filled, new, hit)

    def test_every_short_text(self):
        for many in range(6):
            for new in map("".join, itertools.product("a&\\n", repeat=many)):
                want, rest, at = "", new, None
                while rest:
                    sign = rest[:2] if rest[0] == "\\" else rest[0]
                    if sign in ("\\", "\\a"):
                        at = len(new) - len(rest)
                        break
                    want += {"&": "<\\&>", "\\&": "&", "\\\\": "\\", "\\n": "\n"}.get(sign, sign)
                    rest = rest[len(sign):]
                if at is None:
                    self.assertEqual(filled(new, "<\\&>"), want)
                else:
                    refused(self, BadText, {"at": at}, filled, new, "<\\&>")


class TestSubRound(unittest.TestCase):

    def test_by_hand(self):
        machine = compiled("!+")
        self.assertEqual(sub_round(machine, "!a!!", "<&>", ((1, 4),)), ((2, 2, "<!!>"),))
        self.assertEqual(sub_round(machine=machine, text="!a!!", new="<&>", stretches=None),
                         ((0, 1, "<!>"), (2, 2, "<!!>")))
        self.assertEqual(sub_round(machine, "!a!!", "<&>", ()), ())
        self.assertEqual(sub_round(machine, "!a!!", "&", None), ())
        self.assertEqual(sub_round(machine, "!a!!", "!", None), ((2, 2, "!"),))
        self.assertEqual(sub_round(machine, "aaa", "x", None), ())
        # A hit counts only if it lies in one stretch; it is not looked for anew in it.
        self.assertEqual(sub_round(machine, "!a!!", "x", ((2, 3),)), ())
        self.assertEqual(sub_round(machine, "!a!!", "x", ((2, 3), (3, 4))), ())
        self.assertEqual(sub_round(machine, "!a!!", "x", ((3, 4), (0, 1))), ((0, 1, "x"),))
        self.assertEqual(sub_round(compiled("b*"), "ab", "-", None), ((0, 0, "-"), (1, 1, "-")))
        self.assertEqual(sub_round(compiled("b*"), "ab", "-", ((0, 0),)), ((0, 0, "-"),))
        self.assertEqual(sub_round(compiled("$"), "a\nb", "\\n", None), ((1, 0, "\n"), (3, 0, "\n")))
        self.assertEqual(sub_round(compiled("a"), "aa", "", None), ((0, 1, ""), (1, 1, "")))

    def test_bad_text(self):
        for new, at in (("\\", 0), ("x\\y", 1)):
            for stretches in (None, (), ((0, 1),)):
                for text in ("a", "b", ""):
                    refused(self, BadText, {"at": at}, sub_round, compiled("a"), text, new, stretches)

    def test_drawn(self):
        rng = rng_for("sub rounds")
        changed = 0
        for _ in range(1200):
            pattern = drawn_pattern(rng, 1)
            machine = compiled(pattern) if len(pattern) < 30 else compiled("a|b\\n")
            text = drawn_text(rng, 10)
            new = rng.choice(("", "&", "x", "a", "<&>", "&&", "\\n", "\\&", "\\\\&"))
            stretches = None
            if rng.random() < 0.6:
                stretches = tuple(tuple(sorted((rng.randint(0, len(text)), rng.randint(0, len(text)))))
                                  for _ in range(rng.randint(0, 3)))
            splices = sub_round(machine, text, new, stretches)
            self.assertIs(type(splices), tuple)
            want, done = "", 0
            for begin, end in plain_all(hits_at(machine, text)):
                if stretches is None or any(low <= begin and end <= high for low, high in stretches):
                    want += text[done:begin] + filled(new, text[begin:end])
                    done = end
            want += text[done:]
            if splices:
                changed += 1
                self.assertIsNone(check_round(len(text), splices))
                self.assertTrue(all(text[at:at + cut] != put for at, cut, put in splices))
                self.assertEqual(spliced(text, splices), want)
            else:
                self.assertEqual(text, want)
        self.assertGreater(changed, 400)


if __name__ == "__main__":
    unittest.main()
