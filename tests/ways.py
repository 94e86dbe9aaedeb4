"""Plain second ways of reckoning, and drawn inputs, that the tests compare with."""

import random

AB = ((0, (0, 0), (0, 1), ""), (1, (0, 0), (0, 1), "ab"), (3, (1, 0), (0, 1), "X"))
AB_CUTS = {2: ((1, 1, 1),)}

HEAD = (0, 0)
END = (0, 1)

# What any value may be: True is not 1, and a list is no tuple.
ANY_VALUES = (
    True, False, None, 0, 1, -1, 10 ** 9, 1.5, "", "a", "ab", "\t", "\u00e4", b"a", [], [1], {}, {1: 2},
    (), (1,), (1, 0), (1, True), (True, 0), (True, True), ("a", "b"), (None, None), (1, 0, 0),
    ((1, 0), (1, 1)), (((1,),),), [(1, 0), (1, 1)], [0, 0], (0, 0), (0.0, 0), ("0", "0"), ((0, 0),),
)


def all_signs(births):
    """All signs of the births, chunk by chunk."""
    signs = [HEAD, END]
    for chunk in range(1, len(births)):
        signs += [(chunk, index) for index in range(len(births[chunk][3]))]
    return signs


def closed(births):
    """The set of all pairs (x, z) with x told ahead of z, closed step by step as [5] tells."""
    signs = all_signs(births)
    ahead = {(HEAD, END)}
    for chunk in range(1, len(births)):
        _, left, right, text = births[chunk]
        row = [left] + [(chunk, index) for index in range(len(text))] + [right]
        ahead |= set(zip(row, row[1:]))
    for y in signs:
        before = [x for x in signs if (x, y) in ahead]
        behind = [z for z in signs if (y, z) in ahead]
        ahead |= {(x, z) for x in before for z in behind}
    return ahead


def drawn_births(rng, chunks, longest=2, deeds=3, letters="ab\n"):
    """Births with any left and right that [5] allows."""
    births = ((0, HEAD, END, ""),)
    for _ in range(chunks):
        left, right = rng.choice(sorted(closed(births)))
        text = "".join(rng.choice(letters) for _ in range(rng.randint(1, longest)))
        births += ((rng.randint(1, deeds), left, right, text),)
    return births


def drawn_cuts(rng, births, deeds=3, chance=0.3):
    """Cuts of any signs, as [6] wants them."""
    cuts = {}
    for deed in range(1, deeds + 1):
        signs = [sign for sign in all_signs(births)[2:] if rng.random() < chance]
        stretches = plain_stretches(signs)
        if stretches:
            cuts[deed] = stretches
    return cuts


def plain_stretches(signs):
    """The stretches of a set of signs, sign by sign."""
    found = []
    for chunk, index in sorted(set(signs)):
        if found and found[-1][0] == chunk and found[-1][1] + found[-1][2] == index:
            found[-1] = (chunk, found[-1][1], found[-1][2] + 1)
        else:
            found.append((chunk, index, 1))
    return tuple(found)


def plain_shown(births, cuts, stand, sign):
    """Whether the sign is shown, as [6] says it."""
    if sign[0] == 0 or not stand >> births[sign[0]][0] & 1:
        return False
    cutters = [deed for deed, stretches in cuts.items() for chunk, start, many in stretches
               if chunk == sign[0] and sign[1] in range(start, start + many)]
    return not any(stand >> deed & 1 for deed in cutters)


def plain_laid(births, choices):
    """The keeper that the choices lay out, sign by sign."""
    row = [HEAD, END]
    for chunk in range(1, len(births)):
        _, left, right, text = births[chunk]
        between = row[row.index(left) + 1:row.index(right)]
        choice = choices[chunk - 1] if chunk - 1 < len(choices) else 0
        stay = choice % (len(between) + 1)
        put = [(chunk, index) for index in range(len(text))]
        row = row[:row.index(left) + 1] + between[:stay] + put + between[stay:] + row[row.index(right):]
    return tuple(row)


def keepers_of(births):
    """All keepers, by trying each sign that may come next; for small births only."""
    ahead = closed(births)
    signs = all_signs(births)
    found = []

    def grow(row):
        if len(row) == len(signs):
            found.append(tuple(row))
        for sign in signs:
            if sign not in row and all(x in row for x in signs if (x, sign) in ahead):
                grow(row + [sign])

    grow([])
    return found


def drawn_text(rng, longest, letters="ab\n"):
    return "".join(rng.choice(letters) for _ in range(rng.randint(0, longest)))


def drawn_round(rng, size, most=3, letters="xy\n"):
    """A round on a text of size signs, of at least one splice; many of them touch."""
    splices = []
    at = 0
    for _ in range(rng.randint(1, most)):
        at = rng.randint(at, min(size, at + 2))
        cut = rng.randint(0, min(3, size - at))
        text = drawn_text(rng, 2, letters)
        if cut or text:
            splices.append((at, cut, text))
            at += max(cut, 1)
        if at > size:
            break
    return tuple(splices) or ((size, 0, "z"),)


def plain_spliced(text, splices):
    """The round done splice by splice, from the last to the first."""
    for at, cut, put in reversed(splices):
        text = text[:at] + put + text[at + cut:]
    return text


def chain_births(many):
    """Births in which each chunk lies directly beside the one before."""
    births = ((0, HEAD, END, ""), (1, HEAD, END, "ab"))
    while len(births) <= many:
        last = len(births) - 1
        births += ((1, (last, 0), (last, 1), "ab"),)
    return births


def rng_for(name):
    """Draws that are the same in each run."""
    return random.Random(name)
