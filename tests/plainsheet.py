"""Sheets reckoned sign by sign, straight from what [5] to [8] tell; for small sheets only."""

import functools

from tests.ways import (
    END, HEAD, all_signs, closed, drawn_round, plain_laid, plain_shown, plain_spliced, plain_stretches,
)

told_pairs = functools.lru_cache(maxsize=4000)(closed)


def is_told(births, one, other):
    told = told_pairs(births)
    return (one, other) in told or (other, one) in told


def shown_in(births, cuts, stand):
    """The set of the shown signs."""
    return {sign for sign in all_signs(births) if plain_shown(births, cuts, stand, sign)}


def untold_among(births, signs):
    """All untold pairs of some signs, each once."""
    return [(x, y) for x in signs for y in signs if x < y and not is_told(births, x, y)]


def in_row(births, signs):
    """Settled signs, in the sequence that is told."""
    told = told_pairs(births)
    return sorted(signs, key=lambda sign: sum((other, sign) in told for other in signs))


def letters(births, signs):
    return "".join(births[chunk][3][index] for chunk, index in signs)


def flipped(stand, deeds):
    for deed in deeds:
        stand ^= 1 << deed
    return stand


def plain_coming(births, cuts, stand, deeds):
    before, after = shown_in(births, cuts, stand), shown_in(births, cuts, flipped(stand, deeds))
    return tuple(sign for sign in plain_laid(births, ()) if sign in after and sign not in before)


def plain_touching(births, cuts, stand, deed):
    """[7]: the makers of what stays and is untold against what comes back."""
    before, after = shown_in(births, cuts, stand), shown_in(births, cuts, flipped(stand, (deed,)))
    found = {births[x[0]][0] for x in before & after for y in after - before if not is_told(births, x, y)}
    return tuple(sorted(found))


def counted_touching(births, cuts, stand, deed):
    """G4: the makers of what stays and lies at a place of the gap of what comes back."""
    before, after = shown_in(births, cuts, stand), shown_in(births, cuts, flipped(stand, (deed,)))
    row = in_row(births, before)
    found = set()
    for sign in after - before:
        low, high = plain_gap(births, row, sign)
        found |= {births[x[0]][0] for x in row[low:high] if x in after}
    return tuple(sorted(found))


def plain_fell(births, cuts, stand, deed):
    """[7]: all untold pairs at once, as long as there are some; also how many times."""
    place = shown_in(births, cuts, stand)
    deeds, times = {deed}, 0
    while True:
        shown = shown_in(births, cuts, flipped(stand, deeds))
        pairs = untold_among(births, shown)
        if not pairs:
            return tuple(sorted(deeds)), times
        times += 1
        for x, y in pairs:
            here = [sign for sign in (x, y) if sign in place]
            sign = here[0] if len(here) == 1 else max(x, y)
            deeds.add(births[sign[0]][0])


def plain_gap(births, row, sign):
    told = told_pairs(births)
    return (sum((x, sign) in told for x in row), len(row) - sum((sign, x) in told for x in row))


def plain_where(births, row, anchor):
    """[8]: the place of an anchor, by counting."""
    told = told_pairs(births)
    sign, side = anchor[:2], anchor[2]
    if side == 0:
        return sum((x, sign) in told or x == sign for x in row)
    return len(row) - sum((sign, x) in told or x == sign for x in row)


class PlainSheet:
    """Nodes, births and cuts; each place's row is reckoned anew."""

    def __init__(self):
        self.births = ((0, HEAD, END, ""),)
        self.cuts = {}
        self.nodes = [("root",)]
        self.place = 0

    def path(self, node):
        path = [node]
        while path[-1]:
            path.append(self.nodes[path[-1]][1])
        return path[::-1]

    def stand_at(self, node):
        stand = 0
        for step in self.path(node)[1:]:
            stand = flipped(stand, (step,) if self.nodes[step][0] == "edit" else self.nodes[step][2])
        return stand

    def stand(self):
        return self.stand_at(self.place)

    def edits(self):
        return [k for k in range(1, len(self.nodes)) if self.nodes[k][0] == "edit"]

    def row_at(self, node):
        return in_row(self.births, shown_in(self.births, self.cuts, self.stand_at(node)))

    def row(self):
        return self.row_at(self.place)

    def text(self):
        return letters(self.births, self.row())

    def do_at(self, parent, rounds):
        """[7]: each splice on the row as it is then, from the last one to the first one of each round."""
        row, deed, taken = self.row_at(parent), len(self.nodes), []
        for splices in rounds:
            for at, cut, text in reversed(splices):
                ends = [HEAD] + row + [END]
                left, right = ends[at], ends[at + cut + 1]
                taken += row[at:at + cut]
                put = []
                if text:
                    put = [(len(self.births), index) for index in range(len(text))]
                    self.births += ((deed, left, right, text),)
                row[at:at + cut] = put
        if taken:
            self.cuts[deed] = plain_stretches(taken)
        self.nodes.append(("edit", parent, rounds))
        self.place = deed
        return deed

    def untold_by(self, deeds):
        return untold_among(self.births, shown_in(self.births, self.cuts, flipped(self.stand(), deeds)))

    def turn(self, deeds):
        """A turn that is let."""
        self.nodes.append(("turn", self.place, deeds))
        self.place = len(self.nodes) - 1
        return self.place


def drawn_deed(rng, text, most=2, splices=2, letters="xy\n"):
    """The rounds of a deed on a text; none puts or cuts many signs."""
    rounds = []
    for _ in range(rng.choice((1, 1, 1, most))):
        rounds.append(drawn_round(rng, len(text), splices, letters))
        text = plain_spliced(text, rounds[-1])
    return tuple(rounds)


def drawn_pair(rng, sheet, plain, steps, longest=12):
    """Do drawn deeds and turns on a sheet and on a plain sheet; most of them at the place."""
    for _ in range(steps):
        kind = rng.random()
        edits = plain.edits()
        if edits and kind < 0.3:
            deeds = tuple(sorted(rng.sample(edits, rng.choice((1, 1, 1, min(2, len(edits)))))))
            if not plain.untold_by(deeds):
                assert sheet.turn(deeds) == plain.turn(deeds)
        elif kind < 0.4:
            plain.place = rng.randrange(len(plain.nodes))
            sheet.go(plain.place)
        else:
            parent = plain.place if rng.random() < 0.85 else rng.randrange(len(plain.nodes))
            text = letters(plain.births, plain.row_at(parent))
            rounds = drawn_deed(rng, text)
            if len(text) > longest:
                rounds = (((rng.randint(0, 4), rng.randint(4, 8), ""),),)
            assert sheet.do_at(parent, rounds) == plain.do_at(parent, rounds)
