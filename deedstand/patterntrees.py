"""Bits of signs, as trees of patterns have them."""

from deedstand.alphabet import code_of

FEED = 1
ANY_BUT_FEED = (1 << 95) - 2


def bits_of(signs):
    """Return the number whose bits are the codes of the signs in a text."""
    bits = 0
    for sign in signs:
        bits = bits | (1 << code_of(sign))
    return bits


def holds(bits, sign):
    """Return whether bits has the bit of the sign's code."""
    return (bits >> code_of(sign)) & 1 == 1
