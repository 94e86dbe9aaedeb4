"""Second ways for patterns: what may stand where, sign by sign; ends by Python's own patterns; drawn patterns."""

import functools
import re

from deedstand.alphabet import ALPHABET

LETTERS_AND_DIGITS = "ABCDEFGHIJKLMNOPQRSTUVWXYZ_abcdefghijklmnopqrstuvwxyz0123456789"


class Strict:
    """[54] as a list of what may stand behind what has been read; no tree is made."""

    def __init__(self):
        self.mode = "fresh"
        self.depth = 0
        self.digits = ""
        self.first = 0
        self.least = 0
        self.low = ""

    def number_fault(self, sign):
        """Whether the number read so far is refused ahead of the sign, or ahead of the end for None."""
        value = int(self.digits)
        if self.mode == "m":
            return value > 30 or (value == 0 and sign == "}")
        return value == 0 or value > 30 or value < self.least

    def give(self, at, sign):
        """Read one sign; return the index of a fault, or None."""
        if self.mode in ("m", "n") and self.digits:
            if sign.isdigit() and self.digits[0] != "0":
                self.digits += sign
                return None
            if self.number_fault(sign):
                return self.first
        way = getattr(self, "in_" + self.mode)
        return None if way(at, sign) else at

    def end(self, at):
        """The index of a fault at the end, or None."""
        if self.mode in ("m", "n") and self.digits and self.number_fault(None):
            return self.first
        return None if self.mode in ("fresh", "atom", "done") and self.depth == 0 else at

    def in_fresh(self, at, sign):
        if sign in "*+?{}]":
            return False
        if sign == "(":
            self.mode, self.depth = "fresh", self.depth + 1
            return self.depth <= 20
        if sign == ")":
            self.mode, self.depth = "atom", self.depth - 1
            return self.depth >= 0
        self.mode = {"|": "fresh", "\\": "slash", "[": "open"}.get(sign, "atom")
        return True

    in_done = in_fresh

    def in_atom(self, at, sign):
        if sign in "*+?":
            self.mode = "done"
            return True
        if sign == "{":
            self.mode, self.digits = "m", ""
            return True
        return self.in_fresh(at, sign)

    def in_m(self, at, sign):
        if not self.digits:
            self.digits, self.first = sign, at
            return sign.isdigit()
        self.least = int(self.digits)
        self.mode, self.digits = {"}": "done", ",": "n"}.get(sign), ""
        return self.mode is not None

    def in_n(self, at, sign):
        if not self.digits:
            if sign == "}":
                self.mode = "done"
                return True
            self.digits, self.first = sign, at
            return sign.isdigit()
        self.mode = "done"
        return sign == "}"

    def in_slash(self, at, sign):
        self.mode = "atom"
        return sign == "n" or sign not in LETTERS_AND_DIGITS

    def in_open(self, at, sign):
        if sign == "^":
            self.mode = "first"
            return True
        return self.in_first(at, sign)

    def in_first(self, at, sign):
        return sign not in "]^-" and self.begin_part(sign)

    def begin_part(self, sign):
        self.mode, self.low = ("part_slash", "") if sign == "\\" else ("sign", sign)
        return True

    def in_part_slash(self, at, sign):
        self.mode, self.low = "sign", "\n" if sign == "n" else sign
        return sign == "n" or sign not in LETTERS_AND_DIGITS

    def in_sign(self, at, sign):
        if sign == "-":
            self.mode = "dash"
            return True
        return self.in_part(at, sign)

    def in_part(self, at, sign):
        if sign == "]":
            self.mode = "atom"
            return True
        return self.in_first(at, sign)

    def in_dash(self, at, sign):
        if sign == "\\":
            self.mode = "dash_slash"
            return True
        self.mode = "part"
        return sign not in "]^-" and ALPHABET.index(sign) >= ALPHABET.index(self.low)

    def in_dash_slash(self, at, sign):
        self.mode = "part"
        high = "\n" if sign == "n" else sign
        return (sign == "n" or sign not in LETTERS_AND_DIGITS) and ALPHABET.index(high) >= ALPHABET.index(self.low)


def plain_fault(text):
    """The index that BadPattern has to tell, or None for a right pattern."""
    strict = Strict()
    for at, sign in enumerate(text):
        fault = strict.give(at, sign)
        if fault is not None:
            return fault
    return strict.end(len(text))


def signs_in(bits):
    return "".join(sign for code, sign in enumerate(ALPHABET) if bits >> code & 1)


def as_regex(tree):
    """The tree as one of Python's own patterns."""
    kind = tree[0]
    if kind == "sign":
        return "[" + "".join(map(re.escape, signs_in(tree[1]))) + "]" if tree[1] else "(?!)"
    if kind == "start":
        return r"(?:(?<=\n)|(?<![\s\S]))"
    if kind == "finish":
        return r"(?:(?=\n)|(?![\s\S]))"
    if kind == "row":
        return "(?:" + "".join(map(as_regex, tree[1])) + ")"
    if kind == "choice":
        return "(?:" + "|".join(map(as_regex, tree[1])) + ")"
    most = "" if tree[3] is None else tree[3]
    return f"(?:{as_regex(tree[1])}){{{tree[2]},{most}}}"


@functools.lru_cache(maxsize=20000)
def regex_ending(tree, left):
    """Python's pattern for the tree with so many signs left behind its end."""
    return re.compile(as_regex(tree) + r"(?=[\s\S]{%d}(?![\s\S]))" % left)


def regex_ends(tree, text, at):
    """The ends of the tree at a place, each asked of Python's own patterns."""
    return tuple(end for end in range(at, len(text) + 1) if regex_ending(tree, len(text) - end).match(text, at))


def walked_ends(machine, text, at):
    """The ends of a machine: all pairs of a state and a place that are come to, by steps."""
    met, due = {(0, at)}, [(0, at)]
    while due:
        state, place = due.pop()
        kind, *more = machine[state]
        follow = []
        if kind == "sign" and place < len(text) and more[0] >> ALPHABET.index(text[place]) & 1:
            follow = [(more[1], place + 1)]
        elif kind == "split":
            follow = [(more[0], place), (more[1], place)]
        elif kind == "start" and (place == 0 or text[place - 1] == "\n"):
            follow = [(more[0], place)]
        elif kind == "finish" and (place == len(text) or text[place] == "\n"):
            follow = [(more[0], place)]
        for pair in follow:
            if pair not in met:
                met.add(pair)
                due.append(pair)
    return tuple(sorted({place for state, place in met if machine[state][0] == "hit"}))


def drawn_class(rng, signs):
    parts = []
    for _ in range(rng.randint(1, 3)):
        low, high = sorted(rng.choices(signs, k=2), key=ALPHABET.index)
        parts.append(in_class(low) if rng.random() < 0.5 else in_class(low) + "-" + in_class(high))
    return "[" + rng.choice(("", "^")) + "".join(parts) + "]"


def in_class(sign):
    if sign == "\n":
        return "\\n"
    return "\\" + sign if sign in "]\\^-" else sign


def alone(sign):
    return "\\" + sign if sign in ".^$\\[]()*+?{}|" else sign


def drawn_repeat(rng, most=4):
    low = rng.randint(0, most)
    high = rng.randint(max(low, 1), most + 1)
    return rng.choice(("*", "+", "?", f"{{{low},}}", f"{{{low},{high}}}", f"{{{high}}}"))


def drawn_pattern(rng, depth, signs="ab\n"):
    """A right pattern; brackets are at most so deep."""
    branches = []
    for _ in range(rng.choice((1, 1, 2, 3))):
        atoms = ""
        for _ in range(rng.choice((0, 1, 1, 2, 3))):
            kind = rng.random()
            if depth and kind < 0.35:
                atoms += "(" + drawn_pattern(rng, depth - 1, signs) + ")"
            elif kind < 0.45:
                atoms += rng.choice((".", "^", "$"))
            elif kind < 0.6:
                atoms += drawn_class(rng, signs)
            else:
                atoms += alone(rng.choice(signs))
            if rng.random() < 0.35:
                atoms += drawn_repeat(rng)
        branches.append(atoms)
    return "|".join(branches)
