"""Births: the row of all chunks that were ever put."""

from deedstand.errors import BadPlace
from deedstand.hopping import told_ahead
from deedstand.kinds import is_number

HEAD = (0, 0)
END = (0, 1)
BORDER = (0, (0, 0), (0, 1), "")


def fresh_births():
    """Return the births that have chunk 0 alone."""
    return (BORDER,)


def born(births, deed, left, right, text):
    """Return the births with one chunk more."""
    if not told_ahead(births, left, right):
        raise BadPlace(len(births))
    return births + ((deed, left, right, text),)


def is_sign(births, thing):
    """Return whether thing, any value, is a sign of the births."""
    if not isinstance(thing, tuple) or len(thing) != 2:
        return False
    chunk, index = thing
    if not is_number(chunk) or not is_number(index):
        return False
    return chunk < len(births) and index < chunk_size(births, chunk)


def letter_of(births, sign):
    """Return the letter of a sign that is not of the border."""
    return births[sign[0]][3][sign[1]]


def chunk_size(births, chunk):
    """Return the number of signs of a chunk."""
    if chunk == 0:
        return 2
    return len(births[chunk][3])
