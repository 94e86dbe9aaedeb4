"""Trees that are written as patterns."""

from deedstand.alphabet import ALPHABET, sign_of
from deedstand.patterntrees import ANY_BUT_FEED, FEED, holds

SPECIAL_SIGNS = ".^$\\[]()*+?{}|"
SPECIAL_IN_CLASS = "]\\^-"
SHORT_REPEATS = {(0, None): "*", (1, None): "+", (0, 1): "?"}


def sign_written(sign, special):
    """Return a sign as it is written where some signs are special."""
    if sign == "\n":
        return "\\n"
    if sign in special:
        return "\\" + sign
    return sign


def runs_of_codes(bits):
    """Return the pairs (first, last) of all longest runs of codes that bits has."""
    runs = []
    for code, sign in enumerate(ALPHABET):
        if holds(bits, sign):
            if len(runs) > 0 and runs[-1][1] == code - 1:
                runs[-1] = (runs[-1][0], code)
            else:
                runs.append((code, code))
    return runs


def run_written(first, last):
    """Return the parts of a class with the codes first to last."""
    low = sign_written(sign_of(first), SPECIAL_IN_CLASS)
    if first == last:
        return low
    high = sign_written(sign_of(last), SPECIAL_IN_CLASS)
    if last == first + 1:
        return low + high
    return low + "-" + high


def parts_written(bits):
    """Return the parts of a class with these signs."""
    return "".join([run_written(first, last) for first, last in runs_of_codes(bits)])


def bits_written(bits):
    """Return an atom that takes these signs."""
    if bits == ANY_BUT_FEED:
        return "."
    runs = runs_of_codes(bits)
    if len(runs) == 1 and runs[0][0] == runs[0][1]:
        return sign_written(sign_of(runs[0][0]), SPECIAL_SIGNS)
    ways = []
    if bits != 0:
        ways.append("[" + parts_written(bits) + "]")
    if bits & FEED == 0:
        ways.append("[^" + parts_written(ANY_BUT_FEED - bits) + "]")
    return min(ways, key=len)


def bounds_written(least, most):
    """Return a repeat."""
    if (least, most) in SHORT_REPEATS:
        return SHORT_REPEATS[(least, most)]
    if most is None:
        return "{" + str(least) + ",}"
    if least == most:
        return "{" + str(least) + "}"
    return "{" + str(least) + "," + str(most) + "}"


def atom_written(tree):
    """Return a tree as an atom that a repeat may follow."""
    if tree[0] in ("row", "choice", "times"):
        return "(" + written(tree) + ")"
    return written(tree)


def part_written(tree):
    """Return a tree as an atom of a branch, with its repeat."""
    if tree[0] == "times":
        return written(tree)
    return atom_written(tree)


def branch_written(tree):
    """Return a tree as a branch of several."""
    if tree[0] == "choice":
        return atom_written(tree)
    return written(tree)


def written(tree):
    """Return a pattern that is read as the tree."""
    kind = tree[0]
    if kind == "sign":
        return bits_written(tree[1])
    if kind == "start":
        return "^"
    if kind == "finish":
        return "$"
    if kind == "row":
        return "".join([part_written(part) for part in tree[1]])
    if kind == "choice":
        return "|".join([branch_written(branch) for branch in tree[1]])
    return atom_written(tree[1]) + bounds_written(tree[2], tree[3])
