"""The colours of all rows of a text, reckoned from nothing."""

from deedstand.bookreading import first_mode
from deedstand.lexing import lexed


def tints_from_nothing(book, rows):
    """Return a pair (mode at the begin, spans) for each of the rows."""
    tints = []
    mode = first_mode(book)
    for row in rows:
        spans, behind = lexed(book, mode, row)
        tints.append((mode, spans))
        mode = behind
    return tuple(tints)
