"""Settled stands, their rows and texts."""

from deedstand.errors import Unsettled
from deedstand.hopping import at_or_ahead
from deedstand.keepers import letters_of, own_keeper, shown_by


def first_untold(births, row):
    """Return the first two neighbours of row that are untold, or None."""
    for one, other in zip(row, row[1:]):
        if not at_or_ahead(births, one, other) and not at_or_ahead(births, other, one):
            return (one, other)
    return None


def shown_signs(births, cuts, stand):
    """Return the shown signs in the sequence of the own keeper."""
    return shown_by(births, cuts, own_keeper(births), stand)


def is_settled(births, cuts, stand):
    """Return whether the stand is settled."""
    return first_untold(births, shown_signs(births, cuts, stand)) is None


def row_of(births, cuts, stand):
    """Return the row of a settled stand."""
    row = shown_signs(births, cuts, stand)
    untold = first_untold(births, row)
    if untold is not None:
        raise Unsettled(untold[0], untold[1])
    return row


def text_of(births, cuts, stand):
    """Return the text of a settled stand."""
    return letters_of(births, row_of(births, cuts, stand))
