"""Stretches of signs that were cut."""


def joined_cuts(stretches):
    """Return stretches of the same signs, ascending, those that meet or overlap joined."""
    cuts = []
    for chunk, start, many in sorted(stretches):
        if len(cuts) > 0 and cuts[-1][0] == chunk and start <= cuts[-1][1] + cuts[-1][2]:
            begin, size = cuts[-1][1:]
            cuts[-1] = (chunk, begin, max(size, start + many - begin))
        else:
            cuts.append((chunk, start, many))
    return tuple(cuts)


def cut_signs(stretches):
    """Return the signs of the stretches, ascending."""
    signs = []
    for chunk, start, many in joined_cuts(stretches):
        signs.extend([(chunk, index) for index in range(start, start + many)])
    return tuple(signs)
