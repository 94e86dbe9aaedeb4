"""[57] machines and closures, [58] ends, each way against the others and against plain second ways."""

import unittest

from deedstand.closures import closed
from deedstand.machines import machine_of, state_many
from deedstand.matching import ends_of, longest
from deedstand.patternreading import read_pattern
from deedstand.patterntrees import bits_of
from deedstand.plainends import tree_ends
from tests.patternways import drawn_pattern, regex_ends, walked_ends
from tests.ways import drawn_text, rng_for

PATTERNS = (
    "", "a", "ab", "a|b", "a|", "|", "()", "a*", "a+", "a?", "(a*)*", "(a?)*", "(()*)*", "()+", "(|a)+", "a{2}",
    "a{2,}", "a{0,2}", "a{1,3}", "(a|ab)(b|)", "(ab?){2,3}", "((a|b)*b){2,}", ".", ".*", "[^a]", "[ab\\n]*", "^", "$",
    "^a", "a$", "^$", "^*", "($)+", "(^a\\n)*", "(^|b)a", "a($|b)", "\\n^$", "(a*^b*$\\n)*", "(^$|a){2,}", "[^ -~]",
    "([^ -~])?", "(a{0,2}b{1,2}){0,2}", "(()|a|b){3}", "((^)*a)*", "(.|\\n)*b", "(a|b|\\n){3,}$",
)
TEXTS = ("", "a", "b", "\n", "ab", "aab", "aba\nb", "\n\na\n", "a\n\nb\n", "abab", "bbb", "\nab\nba", "aaaa",
         "ab\n\n\nab")


def plain_ends(tree, text, at):
    """[58], word by word, for each place by itself; a tree is repeated until nothing new comes."""
    kind = tree[0]
    if kind == "sign":
        return {at + 1} if at < len(text) and tree[1] & bits_of(text[at]) else set()
    if kind == "start":
        return {at} if at == 0 or text[at - 1] == "\n" else set()
    if kind == "finish":
        return {at} if at == len(text) or text[at] == "\n" else set()
    if kind == "row":
        places = {at}
        for part in tree[1]:
            places = {end for place in places for end in plain_ends(part, text, place)}
        return places
    if kind == "choice":
        return {end for branch in tree[1] for end in plain_ends(branch, text, at)}
    times, seen, found = 0, [], set()
    places = {at}
    most = tree[2] + len(text) + 2 if tree[3] is None else tree[3]
    while times <= most and (times <= tree[2] or places not in seen):
        if times >= tree[2]:
            seen.append(places)
            found |= places
        places = {end for place in places for end in plain_ends(tree[1], text, place)}
        times += 1
    return found


class TestMachines(unittest.TestCase):

    def check_form(self, tree):
        machine = machine_of(tree)
        self.assertIs(type(machine), tuple)
        self.assertEqual(len(machine), state_many(tree) + 1)
        self.assertEqual([state for state in machine if state[0] == "hit"], [("hit",)])
        sizes = {"sign": 3, "split": 3, "start": 2, "finish": 2, "hit": 1}
        for state in machine:
            self.assertEqual((type(state), len(state)), (tuple, sizes[state[0]]))
            for goal in state[2 if state[0] == "sign" else 1:]:
                self.assertTrue(type(goal) is int and 0 <= goal < len(machine))
        return machine

    def test_state_many(self):
        for text, many in (("ab|c{1,3}", 8), ("", 0), ("a", 1), ("^$", 2), ("|", 1), ("a*", 2), ("a+", 3), ("a?", 2),
                           ("a{2,5}", 8), ("a{3}", 3), ("()*", 1), ("()+", 1), ("(){30}", 0), ("(){0,30}", 30),
                           ("(ab){2,}", 7), ("((a?){2,3}){4}", 28)):
            tree = read_pattern(text)
            self.assertEqual(state_many(tree), many, text)
            self.check_form(tree)
        self.assertEqual(state_many(tree=("row", ())), 0)
        self.assertEqual(machine_of(tree=("row", ())), (("hit",),))

    def test_many_empty_repeats(self):
        tree = ("row", ())
        for _ in range(20):
            tree = ("times", tree, 30, 30)
        self.assertEqual((machine_of(tree), tree_ends(tree, "a", 1)), ((("hit",),), (1,)))
        tree = ("times", ("row", (tree, ("sign", bits_of("a")))), 0, None)
        self.assertEqual((len(self.check_form(tree)), tree_ends(tree, "aab", 0)), (3, (0, 1, 2)))

    def test_patterns(self):
        for text in PATTERNS:
            tree = read_pattern(text)
            machine = self.check_form(tree)
            for word in TEXTS:
                for at in range(len(word) + 1):
                    self.check_ends(tree, machine, word, at)

    def check_ends(self, tree, machine, word, at):
        want = tuple(sorted(plain_ends(tree, word, at)))
        got = tree_ends(tree, word, at), ends_of(machine, word, at), walked_ends(machine, word, at)
        self.assertEqual(got, (want,) * 3, (tree, word, at))
        self.assertTrue(type(got[0]) is tuple and type(got[1]) is tuple)
        self.assertEqual(regex_ends(tree, word, at), want, (tree, word, at))
        self.assertEqual(longest(machine, word, at), want[-1] if want else None)

    def test_drawn(self):
        rng = rng_for("machines")
        tried = 0
        while tried < 700:
            text = drawn_pattern(rng, rng.randint(0, 3), "ab\n")
            if len(text) > 40:
                continue
            tree = read_pattern(text)
            if state_many(tree) > 150:
                continue
            tried += 1
            machine = self.check_form(tree)
            for word in (drawn_text(rng, 7), drawn_text(rng, 4, "a\n")):
                at = rng.randint(0, len(word))
                self.check_ends(tree, machine, word, at)

    def test_by_name(self):
        tree = read_pattern("a*")
        machine = machine_of(tree=tree)
        self.assertEqual(tree_ends(tree=tree, text="aa", at=1), (1, 2))
        self.assertEqual(ends_of(machine=machine, text="aa", at=1), (1, 2))
        self.assertEqual(longest(machine=machine, text="aab", at=0), 2)
        self.assertIsNone(longest(machine_of(read_pattern("b")), "a", 0))


def drawn_machine(rng, many):
    """A machine with any states in any sequence; it may have no hit, or several."""
    def goal():
        return rng.randrange(many)

    states = []
    for _ in range(many):
        kind = rng.choice(("sign", "sign", "split", "split", "start", "finish", "hit"))
        bits = rng.choice((bits_of("a"), bits_of("b\n"), 2 ** 95 - 2, 0, 2 ** 95 - 1))
        states.append({"sign": ("sign", bits, goal()), "split": ("split", goal(), goal()), "start": ("start", goal()),
                       "finish": ("finish", goal()), "hit": ("hit",)}[kind])
    return tuple(states)


def plain_closed(machine, states, at_start, at_end):
    """All states that are led to, until a whole look at the machine brings nothing new."""
    found = set(states)
    while True:
        more = set(found)
        for state in found:
            kind, *goals = machine[state]
            if kind == "split" or kind == "start" and at_start or kind == "finish" and at_end:
                more |= set(goals)
        if more == found:
            return tuple(sorted(found))
        found = more


class TestAnyMachines(unittest.TestCase):

    def test_example(self):
        machine = (("split", 1, 3), ("sign", 4, 0), ("hit",), ("start", 2))
        self.assertEqual((closed(machine, (0,), True, False), closed(machine, (0,), False, True)),
                         ((0, 1, 2, 3), (0, 1, 3)))
        self.assertEqual(closed(machine=machine, states=(2, 3, 2), at_start=True, at_end=True), (2, 3))
        self.assertEqual(closed(machine, (), True, True), ())
        self.assertEqual([ends_of(machine, "!!a", at) for at in range(4)], [(0,), (), (), ()])

    def test_loops_that_pass_no_sign(self):
        machine = (("split", 1, 0), ("split", 2, 0), ("split", 0, 3), ("finish", 4), ("split", 4, 5), ("hit",))
        self.assertEqual([closed(machine, (0,), False, is_end) for is_end in (False, True)],
                         [(0, 1, 2, 3), (0, 1, 2, 3, 4, 5)])
        self.assertEqual([longest(machine, "a\n", at) for at in range(3)], [None, 1, 2])
        self.assertEqual(ends_of((("split", 0, 0),), "a", 0), ())
        self.assertEqual(ends_of((("hit",),), "a", 1), (1,))

    def test_drawn(self):
        rng = rng_for("any machines")
        hits = 0
        for _ in range(1500):
            machine = drawn_machine(rng, rng.randint(1, 9))
            states = tuple(rng.randrange(len(machine)) for _ in range(rng.randint(0, 4)))
            for at_start in (True, False):
                for at_end in (True, False):
                    got = closed(machine, states, at_start, at_end)
                    self.assertEqual(got, plain_closed(machine, states, at_start, at_end))
                    self.assertIs(type(got), tuple)
            text = drawn_text(rng, 7)
            for at in range(len(text) + 1):
                want = walked_ends(machine, text, at)
                self.assertEqual(ends_of(machine, text, at), want)
                self.assertEqual(longest(machine, text, at), want[-1] if want else None)
                hits += len(want)
        self.assertGreater(hits, 1000)


class TestLongest(unittest.TestCase):

    def test_as_many_states_as_may_be(self):
        for text, word, ends in (
            ("((a?){30}){25}", "a" * 4000, tuple(range(751))),
            ("((a?b?){30}){12}", "ab" * 2000, tuple(range(721))),
            ("(" + "a" * 50 + "){30}", "a" * 4000, (1500,)),
            ("((a{30}){30}(a{20}){30})", "a" * 4000, (1500,)),
            ("((a{0,15}){25}){2}", "a" * 3000, tuple(range(751))),
        ):
            tree = read_pattern(text)
            machine = machine_of(tree)
            self.assertTrue(1400 < len(machine) <= 1501, len(machine))
            self.assertEqual(ends_of(machine, word, 0), ends)
            self.assertEqual(longest(machine, word, 1000), 1000 + ends[-1])
            self.assertEqual(tree_ends(tree, word, 0), ends)

    def test_loops_over_long_texts(self):
        text = "ab\n" * 1333
        for pattern, ends in (("(.|\\n)*", tuple(range(4000))), ("((a*b*)*\\n?)*", tuple(range(4000))),
                              ("(ab\\n)*$", (3999,)), ("(^ab$\\n)*^", tuple(range(0, 4000, 3)))):
            tree = read_pattern(pattern)
            machine = machine_of(tree)
            self.assertEqual((ends_of(machine, text, 0), tree_ends(tree, text, 0)), (ends, ends), pattern)
            self.assertEqual(longest(machine, text, 0), ends[-1])
        deep = read_pattern("(" * 20 + "a" + ")*" * 20)
        self.assertEqual(tree_ends(deep, "a" * 4000, 0), tuple(range(4001)))
        self.assertEqual(ends_of(machine_of(deep), "a" * 4000, 3990), tuple(range(3990, 4001)))

    def test_split_chains(self):
        # A loop of 1,500 splits, in both directions, with the hit at its end.
        for step in (1, -1):
            order = list(range(1500))[::step]
            states = [None] * 1500
            first = order.index(0)
            order = order[first:] + order[:first]
            for here, there in zip(order, order[1:]):
                states[here] = ("split", there, 0)
            states[order[-1]] = ("split", 0, 1500)
            machine = tuple(states) + (("hit",),)
            self.assertEqual(closed(machine, (0,), False, False), tuple(range(1501)))
            self.assertEqual(ends_of(machine, "a" * 4000, 4000), (4000,))


if __name__ == "__main__":
    unittest.main()
