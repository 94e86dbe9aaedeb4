"""Patterns that are read into trees."""

from deedstand.alphabet import DIGITS, code_of, kind_of
from deedstand.errors import BadPattern
from deedstand.limits import MOST_BRACKETS, MOST_PATTERN, MOST_STATES, MOST_TIMES, check_many
from deedstand.machines import state_many
from deedstand.patterntrees import ANY_BUT_FEED, bits_of

REPEATS = {"*": (0, None), "+": (1, None), "?": (0, 1)}


def sign_at(text, at):
    """Return the sign at an index, or raise BadPattern if the pattern ends there."""
    if at >= len(text):
        raise BadPattern(len(text))
    return text[at]


def escaped_at(text, at):
    """Return the sign that the sign at an index means behind a backslash."""
    sign = sign_at(text, at)
    if sign == "n":
        return "\n"
    if kind_of(sign) in ("letter", "digit"):
        raise BadPattern(at)
    return sign


def part_sign_at(text, at):
    """Return the pair of the sign of a class that is written at an index, and the index behind it."""
    sign = sign_at(text, at)
    if sign == "\\":
        return (escaped_at(text, at + 1), at + 2)
    if sign in "]^-":
        raise BadPattern(at)
    return (sign, at + 1)


def part_at(text, at):
    """Return the pair of the bits of the part of a class at an index, and the index behind it."""
    first, at = part_sign_at(text, at)
    if at == len(text) or text[at] != "-":
        return (bits_of(first), at)
    second, end = part_sign_at(text, at + 1)
    low, high = code_of(first), code_of(second)
    if high < low:
        raise BadPattern(end - 1)
    return ((1 << (high + 1)) - (1 << low), end)


def class_at(text, at):
    """Return the pair of the tree of the class whose first sign has an index, and the index behind it."""
    is_other = sign_at(text, at) == "^"
    if is_other:
        at += 1
    bits, at = part_at(text, at)
    while sign_at(text, at) != "]":
        more, at = part_at(text, at)
        bits = bits | more
    if is_other:
        bits = ANY_BUT_FEED - (ANY_BUT_FEED & bits)
    return (("sign", bits), at + 1)


def atom_at(text, at):
    """Return the pair of the tree of the atom at an index, one without brackets, and the index behind it."""
    sign = text[at]
    if sign == "[":
        return class_at(text, at + 1)
    if sign == "\\":
        return (("sign", bits_of(escaped_at(text, at + 1))), at + 2)
    if sign in "*+?{}]":
        raise BadPattern(at)
    if sign == "^":
        return (("start",), at + 1)
    if sign == "$":
        return (("finish",), at + 1)
    if sign == ".":
        return (("sign", ANY_BUT_FEED), at + 1)
    return (("sign", bits_of(sign)), at + 1)


def bound_at(text, at):
    """Return the pair of the number of a repeat at an index, and the index behind it."""
    if sign_at(text, at) not in DIGITS:
        raise BadPattern(at)
    end = at + 1
    if text[at] != "0":
        while end < len(text) and text[end] in DIGITS:
            end += 1
    return (int(text[at:end]), end)


def bounds_at(text, at):
    """Return the least and the most times of the repeat in braces at an index, and the index behind it."""
    begin = at + 1
    least, end = bound_at(text, begin)
    if least > MOST_TIMES:
        raise BadPattern(begin)
    if sign_at(text, end) == "}":
        if least == 0:
            raise BadPattern(begin)
        return (least, least, end + 1)
    if text[end] != ",":
        raise BadPattern(end)
    begin = end + 1
    if sign_at(text, begin) == "}":
        return (least, None, begin + 1)
    most, end = bound_at(text, begin)
    if most == 0 or most > MOST_TIMES or most < least:
        raise BadPattern(begin)
    if sign_at(text, end) != "}":
        raise BadPattern(end)
    return (least, most, end + 1)


def repeated(tree, text, at):
    """Return the pair of the tree with the repeat at an index, if there is one, and the index behind it."""
    if at == len(text) or text[at] not in "*+?{":
        return (tree, at)
    if text[at] == "{":
        least, most, at = bounds_at(text, at)
        return (("times", tree, least, most), at)
    least, most = REPEATS[text[at]]
    return (("times", tree, least, most), at + 1)


def branch_tree(atoms):
    """Return the tree of a branch."""
    if len(atoms) == 1:
        return atoms[0]
    return ("row", tuple(atoms))


def branches_tree(branches):
    """Return the tree of a pattern, whose branches are lists of atoms."""
    trees = [branch_tree(atoms) for atoms in branches]
    if len(trees) == 1:
        return trees[0]
    return ("choice", tuple(trees))


def tree_of(text):
    """Return the tree of a pattern of any length, with any number of states."""
    # One list of branches for the whole pattern, and one for each bracket that is open.
    inside = [[[]]]
    at = 0
    while at < len(text):
        sign = text[at]
        if sign == "(":
            if len(inside) > MOST_BRACKETS:
                raise BadPattern(at)
            inside.append([[]])
            at += 1
        elif sign == "|":
            inside[-1].append([])
            at += 1
        else:
            if sign != ")":
                tree, at = atom_at(text, at)
            elif len(inside) > 1:
                tree = branches_tree(inside.pop())
                at += 1
            else:
                raise BadPattern(at)
            tree, at = repeated(tree, text, at)
            inside[-1][-1].append(tree)
    if len(inside) > 1:
        raise BadPattern(len(text))
    return branches_tree(inside[0])


def read_pattern(text):
    """Return the tree of a pattern."""
    check_many(len(text), MOST_PATTERN, "pattern")
    tree = tree_of(text)
    check_many(state_many(tree), MOST_STATES, "states")
    return tree
