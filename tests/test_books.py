"""[62] books, every row that is refused; [63] the colours of a row."""

import unittest

from deedstand.alphabet import ALPHABET
from deedstand.bookreading import first_mode, mode_names, read_book
from deedstand.errors import BadBook, BadPattern, TooMuch
from deedstand.lexing import lexed
from deedstand.linewords import words_of
from deedstand.patternreading import read_pattern
from deedstand.plainends import tree_ends
from deedstand.quoting import quote
from tests.patternways import drawn_pattern
from tests.test_sheets import refused
from tests.ways import drawn_text, rng_for

CODE_ROWS = ("mode code", 'rule 1 code "if"', 'rule 2 code "[a-z]+"', 'rule 3 note "<"', "mode note", 'rule 3 code ">"',
             'rule 3 note "[^<>]"')


class TestBooks(unittest.TestCase):

    def bad(self, line, rows):
        refused(self, BadBook, {"line": line}, read_book, rows)

    def test_names(self):
        book = read_book(CODE_ROWS)
        self.assertEqual((mode_names(book), first_mode(book)), (("code", "note"), "code"))
        self.assertIs(type(mode_names(book)), tuple)
        book = read_book(rows=("mode z9",))
        self.assertEqual((mode_names(book=book), first_mode(book=book)), (("z9",), "z9"))
        names = tuple(f"m{k}" for k in range(8))
        book = read_book(tuple(f"mode {name}" for name in names))
        self.assertEqual((mode_names(book), first_mode(book)), (names, "m0"))
        # mode and rule are names like others.
        book = read_book(("mode rule", 'rule 8 mode "a"', "mode mode", 'rule 1 rule ""'))
        self.assertEqual(mode_names(book), ("rule", "mode"))

    def test_empty(self):
        self.bad(0, ())
        self.bad(0, ("",))
        self.bad(1, ("mode a", ""))

    def test_rows_that_do_not_read_so(self):
        for row in ("", " ", "mode", "mode ", " mode b", "mode b ", "mode  b", "mode b c", "mode 1", "mode B",
                    'mode "b"', "mode b1234567890123", "Mode b", "moder b", "mode,b", "b", "1", "mode b\n", "# mode b",
                    "rule", "rule 1", "rule 1 a", 'rule 1 a "x', "rule 1 a x", 'rule 1 "x"', 'rule a 1 "x"',
                    'rule 1 a "x" 1',
                    'rule 0 a "x"', 'rule 9 a "x"', 'rule 10 a "x"', 'rule 01 a "x"', 'rule 1 A "x"', 'rule "1" a "x"',
                    'rule 1 a "x" ', ' rule 1 a "x"', 'rule  1 a "x"', 'rule 1 a"x"', 'rule 1 a "\\x"', "rule 1 a 'x'",
                    'rules 1 a "x"', 'Rule 1 a "x"', 'rule 1, a "x"', 'rule 1 a "x\ny"', 'rule -1 a "x"'):
            self.bad(1, ("mode a", row))
            self.bad(0, (row, "mode a"))
            self.bad(2, ("mode a", 'rule 1 a "x"', row, row, "mode a"))

    def test_modes(self):
        self.bad(1, ("mode a", "mode a"))
        self.bad(3, ("mode a", "mode b", 'rule 1 a "x"', "mode a", "mode b"))
        nine = tuple(f"mode m{k}" for k in range(9))
        self.bad(8, nine)
        self.bad(8, nine[:8] + ("mode m0",))
        self.assertEqual(len(mode_names(read_book(nine[:8] + ('rule 1 m7 "x"',)))), 8)
        # A rule may name a mode that only a refused row tells, which is refused then, behind the rule.
        self.bad(9, nine[:8] + ('rule 1 m8 "x"', "mode m8"))
        self.bad(8, nine[:8] + ('rule 1 m9 "x"', "mode m8"))
        self.bad(3, ("mode a", 'rule 1 b "x"', "mode b", "mode a"))

    def test_rules(self):
        self.bad(0, ('rule 1 a "x"', "mode a"))
        self.bad(0, ('rule 1 a "x"',))
        many = ("mode a",) + ('rule 1 a "x"',) * 20
        self.assertEqual(mode_names(read_book(many + ("mode b",) + ('rule 8 a "y"',) * 20)), ("a", "b"))
        self.bad(21, many + ('rule 1 a "x"',))
        self.bad(21, many + ('rule 1 a "x"', "mode b"))
        self.bad(42, many + ("mode b",) + ('rule 1 a "x"',) * 21)
        # The mode that follows has to be told by some row, also a later one.
        self.bad(1, ("mode a", 'rule 1 b "x"'))
        self.bad(1, ("mode a", 'rule 1 b "x"', "mode  b"))
        self.bad(1, ("mode a", 'rule 1 b "x"', 'mode b "c"'))
        self.assertEqual(mode_names(read_book(("mode a", 'rule 1 b "x"', "mode b"))), ("a", "b"))
        self.assertEqual(len(mode_names(read_book(many + tuple(f"mode b{k}" for k in range(7))))), 8)

    def test_patterns(self):
        for pattern in ("a**", "(", ")", "[b-a]", "a{31}", "[]", "\\q", "a" * 201, "(" + "a" * 51 + "){30}", "{1}"):
            with self.assertRaises((BadPattern, TooMuch)):
                read_pattern(pattern)
            self.bad(1, ("mode a", f"rule 1 a {quote(pattern)}", "mode a"))
        for pattern in ("", "a" * 200, "(" + "a" * 50 + "){30}", "\n", "\\\\", '"', "\\n"):
            self.assertEqual(first_mode(read_book(("mode a", f"rule 1 a {quote(pattern)}"))), "a")

    def test_first_of_several(self):
        rows = ("mode a", 'rule 1 b "x"', "mode a", "mode", 'rule 9 a "x"', 'rule 1 a "("')
        for at in range(1, len(rows)):
            self.bad(1, ("mode a",) + rows[at:])
        self.bad(1, rows)

    def test_two_hundred_rows(self):
        rows = []
        for k in range(8):
            rows += [f"mode m{k}"] + [f'rule {1 + n % 8} m{n % 8} "{"ab"[n % 2]}{{{1 + n}}}"' for n in range(20)]
        self.assertEqual(len(rows), 168)
        book = read_book(tuple(rows))
        self.assertEqual(lexed(book, "m3", "a" * 4000)[0][0][0] > 0, True)
        self.bad(168, tuple(rows) + ('rule 1 m0 "x"',) * 32)


def plain_lexed(rows, mode, row):
    """[63] from the rows of the book, with the ends of trees."""
    rules, name = {}, None
    for line in rows:
        words = [word for _, word in words_of(line)]
        if words[0] == "mode" and len(words) == 2:
            name = words[1]
            rules[name] = []
        else:
            rules[name].append((words[1], words[2], read_pattern(words[3])))
    colours, at = [], 0
    while at < len(row):
        ends = [max(tree_ends(tree, row, at), default=at) for _, _, tree in rules[mode]]
        best = max(ends, default=at)
        if best == at:
            colours.append(0)
            at += 1
            continue
        colour, mode, _ = rules[mode][ends.index(best)]
        colours += [colour] * (best - at)
        at = best
    return colours, mode


class TestLexed(unittest.TestCase):

    def test_examples(self):
        book = read_book(CODE_ROWS)
        self.assertEqual(lexed(book, "code", "if x<(>("), (((2, 1), (1, 0), (1, 2), (3, 3), (1, 0)), "code"))
        self.assertEqual(lexed(book, "code", "iffy<"), (((4, 2), (1, 3)), "note"))
        self.assertEqual(lexed(book=book, mode="note", row="x>if"), (((2, 3), (2, 1)), "code"))
        self.assertEqual((lexed(book, "code", ""), lexed(book, "note", "")), (((), "code"), ((), "note")))

    def check(self, rows, mode, row):
        spans, behind = got = lexed(read_book(rows), mode, row)
        self.assertTrue(type(got) is tuple and type(spans) is tuple and all(type(span) is tuple for span in spans))
        colours, after = plain_lexed(rows, mode, row)
        self.assertEqual(([colour for many, colour in spans for _ in range(many)], behind), (colours, after))
        for many, colour in spans:
            self.assertTrue(many > 0 and 0 <= colour <= 8)
        for one, other in zip(spans, spans[1:]):
            self.assertNotEqual(one[1], other[1])
        return spans

    def test_by_hand(self):
        # The greatest end applies, the earliest rule if several tie; an empty end does not count.
        self.assertEqual(self.check(("mode a", 'rule 1 a "x"', 'rule 2 a "xx"', 'rule 3 a "x*"'), "a", "xxx"),
                         ((3, 3),))
        self.assertEqual(self.check(("mode a", 'rule 1 a "x"', 'rule 2 a "xx"', 'rule 3 a "x{2}"'), "a", "xxx"),
                         ((2, 2), (1, 1)))
        self.assertEqual(self.check(("mode a", 'rule 5 a "x*"'), "a", "yxyy"), ((1, 0), (1, 5), (2, 0)))
        self.assertEqual(self.check(("mode a", 'rule 5 a ""', 'rule 6 b "^"', "mode b"), "a", "yx"), ((2, 0),))
        self.assertEqual(self.check(("mode a",), "a", "yx"), ((2, 0),))
        # Neighbours of one colour are joined, over rules and modes.
        rows = ("mode a", 'rule 1 b "x"', "mode b", 'rule 1 a "y"', 'rule 2 b "z"')
        self.assertEqual(self.check(rows, "a", "xyxyxz"), ((5, 1), (1, 2)))

    def test_one_row(self):
        # ^ holds only at the begin of the row, $ only at its end, also where the mode has changed amid it.
        rows = ("mode a", 'rule 1 b "^x"', 'rule 2 a "x$"', 'rule 3 a "x"', "mode b", 'rule 4 a "^x"', 'rule 5 b "y"')
        self.assertEqual(self.check(rows, "a", "xyxx"), ((1, 1), (1, 5), (2, 0)))
        self.assertEqual(self.check(rows, "a", "yxx"), ((1, 0), (1, 3), (1, 2)))
        self.assertEqual(self.check(rows, "b", "xxx"), ((1, 4), (1, 3), (1, 2)))
        self.assertEqual(self.check(("mode a", 'rule 1 a "\\\\n|x$"', 'rule 2 a "^$|y"'), "a", "xyx"),
                         ((1, 0), (1, 2), (1, 1)))

    def test_drawn(self):
        rng = rng_for("colours")
        seen = {}
        for _ in range(500):
            rows = []
            for name in ("a", "b", "c"):
                rows.append(f"mode {name}")
                for _ in range(rng.randint(0, 4)):
                    pattern = drawn_pattern(rng, 1, "xyz")
                    if len(pattern) < 25:
                        rows.append(f"rule {rng.randint(1, 8)} {rng.choice('abc')} {quote(pattern)}")
            for mode in ("a", "b", "c"):
                for _, colour in self.check(tuple(rows), mode, drawn_text(rng, 12, "xyz ")):
                    seen[colour] = True
        self.assertEqual(sorted(seen), list(range(9)))

    def test_all_signs(self):
        for sign in ALPHABET[1:]:
            self.check(CODE_ROWS, "code", "if" + sign + "x")

    def test_longest(self):
        book = read_book(CODE_ROWS)
        self.assertEqual(lexed(book, "code", "if " * 1333), (((2, 1), (1, 0)) * 1333, "code"))
        self.assertEqual(lexed(book, "code", "<" * 4000), (((1, 3), (3999, 0)), "note"))
        self.assertEqual(lexed(book, "code", "z" * 4000), (((4000, 2),), "code"))
        # Rules that run to the end of the row at each place, for nothing.
        rows = ("mode a",) + tuple(f'rule {1 + k % 8} a "x*[{"abcdefghijklmnopqrst"[k]}]"' for k in range(20))
        self.assertEqual(lexed(read_book(rows), "a", "x" * 3999 + "b"), (((4000, 2),), "a"))
        self.assertEqual(lexed(read_book(rows), "a", "x" * 4000), (((4000, 0),), "a"))


if __name__ == "__main__":
    unittest.main()
