"""Judges of what is said against a stand."""

from deedstand.birthrows import is_sign
from deedstand.keepers import laid_out
from deedstand.stands import is_shown


def stands_ahead(births, choices, one, other):
    """Return whether the choices lay out one ahead of other."""
    row = laid_out(births, choices)
    return row.index(one) < row.index(other)


def choices_fit(births, cuts, stand, thing):
    """Return whether thing shows, as two_choices does, that the stand is not settled."""
    one, other, choices, others = thing
    for sign in (one, other):
        if not is_sign(births, sign) or not is_shown(births, cuts, stand, sign):
            return False
    chunks = len(births) - 1
    if len(choices) != chunks or len(others) != chunks:
        return False
    return stands_ahead(births, choices, one, other) and stands_ahead(births, others, other, one)
