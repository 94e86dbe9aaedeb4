"""The gaps of signs and the places of anchors, in the row of a settled stand."""

from deedstand.birthrows import END, HEAD
from deedstand.errors import BadPlace
from deedstand.hopping import told_ahead


def many_ahead(births, row, sign):
    """Return the number of signs of row that are told ahead of a sign."""
    low, high = 0, len(row)
    while low < high:
        middle = (low + high) // 2
        if told_ahead(births, row[middle], sign):
            low = middle + 1
        else:
            high = middle
    return low


def begin_behind(births, row, sign):
    """Return the index in row of the first sign that a sign is told ahead of, or the row's length."""
    low, high = 0, len(row)
    while low < high:
        middle = (low + high) // 2
        if told_ahead(births, sign, row[middle]):
            high = middle
        else:
            low = middle + 1
    return low


def gap_of(births, row, sign):
    """Return the gap of a sign."""
    # Each sign of row is told ahead of the next one, so both searches may halve it.
    return (many_ahead(births, row, sign), begin_behind(births, row, sign))


def anchor_place(births, row, anchor):
    """Return the place of an anchor."""
    chunk, index, side = anchor
    low, high = gap_of(births, row, (chunk, index))
    is_here = low < len(row) and row[low] == (chunk, index)
    # A shown sign counts as ahead of its anchor with side 0, and as behind the one with side 1.
    if is_here == (side == 0):
        return high
    return low


def anchor_at(row, place, side):
    """Return the anchor at a place."""
    if place > len(row):
        raise BadPlace(place)
    if side == 0:
        chunk, index = HEAD if place == 0 else row[place - 1]
    else:
        chunk, index = END if place == len(row) else row[place]
    return (chunk, index, side)
