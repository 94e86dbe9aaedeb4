"""The round that indents lines, and the front of a new line."""

from deedstand.bookreading import first_mode
from deedstand.depths import closes, depth_of, front_of, stripped
from deedstand.errors import BadPlace
from deedstand.kinds import is_below
from deedstand.limits import MOST_FRONT
from deedstand.plaintints import tints_from_nothing
from deedstand.textlines import rows_of

INDENT = 2


def check_lines(many, first, last):
    """Raise BadPlace if first and last are not lines of many, in this sequence."""
    for line in (first, last):
        if not is_below(line, many):
            raise BadPlace(line)
    if first > last:
        raise BadPlace(last)


def mode_of(book):
    """Return the first mode of a book; without one there is one mode, which nobody looks at."""
    if book is None:
        return None
    return first_mode(book)


def passed_over(book, rows):
    """Return a list that tells for each stripped row of a text whether it is passed over."""
    if book is None:
        return [row == "" for row in rows]
    modes = [mode for mode, _ in tints_from_nothing(book, rows)]
    return [row == "" or mode != modes[0] for row, mode in zip(rows, modes)]


def front_below(book, above, row):
    """Return the new front of a stripped row; above is the pair of front and stripped row above it, or None."""
    if above is None:
        return 0
    front, upper = above
    mode = mode_of(book)
    front += INDENT * depth_of(book, mode, upper)
    if closes(book, mode, row):
        front -= INDENT
    return min(max(front, 0), MOST_FRONT)


def front_round(begin, old, new):
    """Return the round that gives the row that begins at a place a new front."""
    if old > new:
        return ((begin, old - new, ""),)
    if old < new:
        return ((begin, 0, " " * (new - old)),)
    return ()


def indent_round(book, text, first, last):
    """Return the round that indents the lines first to last, or ()."""
    rows = rows_of(text)
    check_lines(len(rows), first, last)
    bare = [stripped(row) for row in rows]
    over = passed_over(book, bare)
    splices = []
    above = None
    begin = 0
    for line in range(last + 1):
        front = front_of(rows[line])
        if not over[line]:
            if line >= first:
                new = front_below(book, above, bare[line])
                splices.extend(front_round(begin, front, new))
                front = new
            above = (front, bare[line])
        begin += len(rows[line]) + 1
    return tuple(splices)


def feed_front(book, mode, row):
    """Return the front of a line that is begun behind a row."""
    return min(front_of(row) + INDENT * depth_of(book, mode, stripped(row)), MOST_FRONT)
