"""Rows, lines and columns of a text."""

from deedstand.errors import BadPlace


def rows_of(text):
    """Return the tuple of the rows."""
    return tuple(text.split("\n"))


def joined(rows):
    """Return the text with these rows."""
    return "\n".join(rows)


def spot_of(text, place):
    """Return the pair of line and column of a place."""
    if place > len(text):
        raise BadPlace(place)
    begin = text.rfind("\n", 0, place) + 1
    return (text.count("\n", 0, place), place - begin)


def place_of(text, line, column):
    """Return the place with this line and column, at most the end of the row."""
    begin, end = row_bounds(text, line)
    return min(begin + column, end)


def row_bounds(text, line):
    """Return the pair of the places at which the row begins and ends."""
    rows = text.split("\n")
    if line >= len(rows):
        raise BadPlace(line)
    begin = sum([len(row) + 1 for row in rows[:line]])
    return (begin, begin + len(rows[line]))


def starts_line(text, place):
    """Return whether a line starts at a place."""
    return place == 0 or text[place - 1] == "\n"


def ends_line(text, place):
    """Return whether a line ends at a place."""
    return place == len(text) or text[place] == "\n"
