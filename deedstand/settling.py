"""Picks and stretches that are joined where they meet."""


def low_high(pick):
    """Return the pair of the lesser and the greater place of a pick."""
    tail, head = pick
    return (min(tail, head), max(tail, head))


def is_joined(low, high, pick):
    """Return whether a pick is joined to the group ahead of it, which goes from low to high."""
    begin, end = low_high(pick)
    return begin < high or (begin == high and (low == high or begin == end))


def one_pick(low, high, picks):
    """Return the pick that a group from low to high becomes."""
    # Carets do not count; a group of these alone has low and high at one place.
    if all([head <= tail for tail, head in picks]):
        return (high, low)
    return (low, high)


def settled_picks(picks):
    """Return the settled picks, ascending by low."""
    groups = []
    for pick in sorted(picks, key=low_high):
        begin, end = low_high(pick)
        if len(groups) > 0 and is_joined(groups[-1][0], groups[-1][1], pick):
            low, high, others = groups.pop()
            groups.append((low, max(high, end), [*others, pick]))
        else:
            groups.append((begin, end, [pick]))
    return tuple([one_pick(low, high, others) for low, high, others in groups])


def joined_stretches(stretches):
    """Return the stretches ascending, those that overlap or touch joined."""
    found = []
    for low, high in sorted(stretches):
        if len(found) > 0 and low <= found[-1][1]:
            begin, end = found.pop()
            found.append((begin, max(end, high)))
        else:
            found.append((low, high))
    return tuple(found)
