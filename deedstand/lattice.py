"""The meet and the join of two signs."""

from deedstand.hopping import told_ahead


def meet_of(births, one, other):
    """Return the last of the signs that are, for both, the sign itself or told ahead of it."""
    while one[0] != other[0]:
        less, great = sorted([one, other])
        if told_ahead(births, great, less):
            return great
        # Nothing of the greater chunk is at or ahead of both, so its left is as good.
        one, other = less, births[great[0]][1]
    return min(one, other)


def join_of(births, one, other):
    """Return the first of the signs that are, for both, the sign itself or told behind it."""
    while one[0] != other[0]:
        less, great = sorted([one, other])
        if told_ahead(births, less, great):
            return great
        one, other = less, births[great[0]][2]
    return max(one, other)
