"""Stands: which deeds stand, and what is shown then."""


def has_deed(stand, deed):
    """Return whether the deed stands."""
    return (stand >> deed) & 1 == 1


def turned(stand, deeds):
    """Return the stand with each deed turned as often as it occurs."""
    for deed in deeds:
        stand = stand ^ (1 << deed)
    return stand


def deeds_of(stand):
    """Return the deeds that stand, ascending."""
    return tuple([deed for deed in range(stand.bit_length()) if has_deed(stand, deed)])


def stand_of(deeds):
    """Return the stand in which exactly these deeds stand."""
    stand = 0
    for deed in deeds:
        stand = stand | (1 << deed)
    return stand


def is_among(stretches, sign):
    """Return whether the sign lies in one of the stretches (chunk, start, many)."""
    for chunk, start, many in stretches:
        if chunk == sign[0] and start <= sign[1] < start + many:
            return True
    return False


def is_shown(births, cuts, stand, sign):
    """Return whether the sign is shown in the stand."""
    if sign[0] == 0 or not has_deed(stand, births[sign[0]][0]):
        return False
    for deed in cuts:
        if has_deed(stand, deed) and is_among(cuts[deed], sign):
            return False
    return True
