"""Which signs of the chunks are shown, as numbers: bit i of a chunk's number is for its sign with index i."""

from deedstand.birthrows import chunk_size
from deedstand.hopping import at_or_ahead
from deedstand.stands import has_deed


def stretch_bits(start, many):
    """Return the number with the bits start to start + many - 1."""
    return ((1 << many) - 1) << start


def shown_bits(births, cuts, stand):
    """Return the list of the numbers of all chunks, with the bits of the signs shown in the stand."""
    shown = [0] * len(births)
    for chunk in range(1, len(births)):
        if has_deed(stand, births[chunk][0]):
            shown[chunk] = stretch_bits(0, chunk_size(births, chunk))
    for deed in cuts:
        if has_deed(stand, deed):
            for chunk, start, many in cuts[deed]:
                shown[chunk] -= shown[chunk] & stretch_bits(start, many)
    return shown


def many_until(births, chunk, sign):
    """Return how many signs of a chunk are the sign or told ahead of it."""
    while sign[0] > chunk:
        sign = births[sign[0]][1]
    if sign[0] == chunk:
        return sign[1] + 1
    if at_or_ahead(births, births[chunk][2], sign):
        return chunk_size(births, chunk)
    return 0


def first_from(births, chunk, sign):
    """Return the index of the first sign of a chunk that is the sign or told behind it, or the chunk's size."""
    while sign[0] > chunk:
        sign = births[sign[0]][2]
    if sign[0] == chunk:
        return sign[1]
    if at_or_ahead(births, sign, births[chunk][1]):
        return 0
    return chunk_size(births, chunk)


def untold_bits(births, less, great):
    """Return the bits of the signs of a chunk that are untold against those of a greater chunk."""
    # To a sign of a lesser chunk all signs of the greater one stand alike, so one number does for all of them.
    low = many_until(births, less, births[great][1])
    high = first_from(births, less, births[great][2])
    return stretch_bits(low, high - low)


def are_untold(births, one, other):
    """Return whether two pairs of a chunk and bits, not 0, tell a sign each that are untold against each other."""
    if one[0] == other[0]:
        return False
    less, great = sorted([one, other])
    return less[1] & untold_bits(births, less[0], great[0]) != 0
