"""Rounds that exchange hits."""

from deedstand.filling import filled
from deedstand.findhits import all_hits


def is_within(hit, stretches):
    """Return whether a hit counts: whether it lies in one of the stretches, if there are any at all."""
    if stretches is None:
        return True
    begin, end = hit
    return any([low <= begin and end <= high for low, high in stretches])


def sub_round(machine, text, new, stretches):
    """Return the round that exchanges the hits."""
    # What new is made of is looked at even if there is no hit.
    filled(new, "")
    splices = []
    for begin, end in all_hits(machine, text):
        old = text[begin:end]
        put = filled(new, old)
        if put != old and is_within((begin, end), stretches):
            splices.append((begin, end - begin, put))
    return tuple(splices)
