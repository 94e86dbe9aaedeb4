"""Which deeds have to fall with a deed."""

from deedstand.turning import is_against, makers_against, staying_and_back


def late_makers(births, back):
    """Return the makers of the greater chunks of all untold pairs of signs that come back."""
    # The chunks ascend, so the lesser ones stand ahead.
    return [births[pair[0]][0] for at, pair in enumerate(back) if is_against(births, pair, back[:at])]


def fell_deeds(births, cuts, stand, deed):
    """Return the deeds that are turned to fell deed, ascending."""
    fallen = (deed,)
    while True:
        staying, back = staying_and_back(births, cuts, stand, fallen)
        # What stays is settled, as the place is, so each untold pair has a sign that comes back.
        more = [*makers_against(births, staying, back), *late_makers(births, back)]
        if len(more) == 0:
            return fallen
        fallen = tuple(sorted(set([*fallen, *more])))
