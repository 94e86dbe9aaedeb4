"""Why a stand is not settled: two layouts that disagree."""

from deedstand.lattice import join_of, meet_of
from deedstand.settledrows import first_untold, shown_signs


def choices_ahead(births, one, other):
    """Return choices that lay out one ahead of other, two untold signs."""
    choices = [0] * (len(births) - 1)
    while one[0] != other[0]:
        # The younger chunk is laid directly at its neighbour, so it is enough to lay that one right.
        if one[0] > other[0]:
            one = births[one[0]][1]
        else:
            choices[other[0] - 1] = -1
            other = births[other[0]][2]
    return tuple(choices)


def two_choices(births, cuts, stand):
    """Return two shown signs and two choices that lay them out both ways; None if the stand is settled."""
    untold = first_untold(births, shown_signs(births, cuts, stand))
    if untold is None:
        return None
    one, other = untold
    return (one, other, choices_ahead(births, one, other), choices_ahead(births, other, one))


def untold_stretch(births, one, other):
    """Return the pair of the meet and the join of two untold signs."""
    return (meet_of(births, one, other), join_of(births, one, other))
