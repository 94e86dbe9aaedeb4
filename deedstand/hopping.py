"""Which signs are told ahead of which; it is found by hops from chunk to chunk."""


def hops_of(births, one, other):
    """Return the pairs from (one, other) down to a pair of signs of one chunk."""
    hops = [(one, other)]
    while one[0] != other[0]:
        if one[0] > other[0]:
            one = births[one[0]][2]
        else:
            other = births[other[0]][1]
        hops.append((one, other))
    return tuple(hops)


def told_ahead(births, one, other):
    """Return whether one is told ahead of other."""
    hops = hops_of(births, one, other)
    left, right = hops[-1]
    return left[1] < right[1] or (left[1] == right[1] and len(hops) > 1)


def at_or_ahead(births, one, other):
    """Return whether one is other or is told ahead of it."""
    return one == other or told_ahead(births, one, other)
