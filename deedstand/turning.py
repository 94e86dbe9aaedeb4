"""What comes back by a turn, and what stands against it."""

from deedstand.settledrows import first_untold, shown_signs
from deedstand.shownbits import are_untold, shown_bits
from deedstand.stands import turned


def coming_back(births, cuts, stand, deeds):
    """Return what comes back when the deeds are turned, in the sequence of the own keeper."""
    before = shown_bits(births, cuts, stand)
    after = shown_signs(births, cuts, turned(stand, deeds))
    return tuple([(chunk, index) for chunk, index in after if before[chunk] >> index & 1 == 0])


def told_bits(numbers):
    """Return the pairs (chunk, bits) of all chunks whose number, in the list numbers, is not 0."""
    return [(chunk, bits) for chunk, bits in enumerate(numbers) if bits != 0]


def staying_and_back(births, cuts, stand, deeds):
    """Return what stays and what comes back when the deeds are turned, as two lists of pairs (chunk, bits)."""
    before = shown_bits(births, cuts, stand)
    after = shown_bits(births, cuts, turned(stand, deeds))
    staying = [old & new for old, new in zip(before, after)]
    back = [new - (old & new) for old, new in zip(before, after)]
    return (told_bits(staying), told_bits(back))


def is_against(births, one, others):
    """Return whether a sign of the pair one is untold against a sign of one of the other pairs."""
    for other in others:
        if are_untold(births, one, other):
            return True
    return False


def makers_against(births, staying, back):
    """Return the makers, ascending, of the signs that stay and are untold against one that comes back."""
    makers = {}
    for chunk, bits in staying:
        maker = births[chunk][0]
        if maker not in makers and is_against(births, (chunk, bits), back):
            makers[maker] = True
    return tuple(sorted(makers))


def touching_of(births, cuts, stand, deed):
    """Return the deeds touching a deed, ascending."""
    staying, back = staying_and_back(births, cuts, stand, (deed,))
    return makers_against(births, staying, back)


def clash_of(births, cuts, stand):
    """Return an untold pair of shown signs, None if there is none."""
    return first_untold(births, shown_signs(births, cuts, stand))
