"""The least splice between two texts."""


def common_begin(one, other):
    """Return the length of the longest common beginning of two texts."""
    many = 0
    for sign, twin in zip(one, other):
        if sign != twin:
            return many
        many += 1
    return many


def least_splice(before, after):
    """Return the least splice that leads from before to after, None if they are equal."""
    if before == after:
        return None
    begin = common_begin(before, after)
    old = before[begin:]
    new = after[begin:]
    end = common_begin(old[::-1], new[::-1])
    return (begin, len(old) - end, new[:len(new) - end])
