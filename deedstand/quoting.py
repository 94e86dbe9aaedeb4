"""Texts, numbers and names as they stand in a line."""

from deedstand.alphabet import DIGITS, LONGEST_NAME, SMALL_LETTERS
from deedstand.errors import BadLine

MOST_DIGITS = 9


def quote(text):
    """Return the text between two double quotes."""
    # The backslash goes first, so that those put in by the others stay single.
    inside = text.replace("\\", "\\\\").replace("\"", "\\\"").replace("\n", "\\n")
    return "\"" + inside + "\""


def sign_at(line, at):
    """Return the sign at an index, or raise BadLine if the line ends there."""
    if at >= len(line):
        raise BadLine(len(line))
    return line[at]


def escaped(line, at):
    """Return the sign that the sign at index at means behind a backslash."""
    sign = sign_at(line, at)
    if sign == "n":
        return "\n"
    if sign == "\\" or sign == "\"":
        return sign
    raise BadLine(at)


def unquote(line, at):
    """Return the pair of the quoted text that begins at an index, and the index behind it."""
    if sign_at(line, at) != "\"":
        raise BadLine(at)
    signs = []
    at += 1
    while sign_at(line, at) != "\"":
        if line[at] == "\n":
            raise BadLine(at)
        if line[at] == "\\":
            at += 1
            signs.append(escaped(line, at))
        else:
            signs.append(line[at])
        at += 1
    return ("".join(signs), at + 1)


def number_at(line, at):
    """Return the pair of the number that begins at an index, and the index behind it."""
    if sign_at(line, at) not in DIGITS:
        raise BadLine(at)
    end = at + 1
    if line[at] != "0":
        while end < len(line) and end < at + MOST_DIGITS and line[end] in DIGITS:
            end += 1
    return (int(line[at:end]), end)


def name_at(line, at):
    """Return the pair of the name that begins at an index, and the index behind it."""
    if sign_at(line, at) not in SMALL_LETTERS:
        raise BadLine(at)
    end = at + 1
    while end < len(line) and (line[end] in SMALL_LETTERS or line[end] in DIGITS):
        end += 1
    if end - at > LONGEST_NAME:
        raise BadLine(at + LONGEST_NAME)
    return (line[at:end], end)
