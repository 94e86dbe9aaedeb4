"""Papers that prove of each sign of a row that it is told ahead of the next one."""

from deedstand.hopping import hops_of


def chain_paper(births, row):
    """Return the tuple of the hops between each two neighbours of row."""
    return tuple([hops_of(births, one, other) for one, other in zip(row, row[1:])])


def is_hop(births, before, after):
    """Return whether one pair of signs may be followed by another one."""
    one, other = before
    if other[0] > 0 and after == (one, births[other[0]][1]):
        return True
    return one[0] > 0 and after == (births[one[0]][2], other)


def entry_fits(births, pair, entry):
    """Return whether an entry proves of a pair of signs that the first is told ahead of the second."""
    if len(entry) == 0 or entry[0] != pair:
        return False
    for before, after in zip(entry, entry[1:]):
        # Only pairs that were found right are looked up, so a number that no birth has does no harm.
        if not is_hop(births, before, after):
            return False
    one, other = entry[-1]
    if one[0] != other[0]:
        return False
    return one[1] < other[1] or (one[1] == other[1] and len(entry) > 1)


def chain_fits(births, row, paper):
    """Return whether a paper proves of each sign of row that it is told ahead of the next one."""
    pairs = list(zip(row, row[1:]))
    if len(paper) != len(pairs):
        return False
    return all([entry_fits(births, pair, entry) for pair, entry in zip(pairs, paper)])
