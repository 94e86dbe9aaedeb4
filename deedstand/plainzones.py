"""What a strike does, by a plain row of cells and by zones that move as places do (G6)."""

from deedstand.limits import MOST_NODES, MOST_TEXT
from deedstand.splicing import moved_place

# A cell is (letter, maker, cutter): the indexes of two deeds, the cutter None as long as the sign is shown.


def shown_indexes(row):
    """Return the indexes of the shown cells of a row."""
    return [at for at, cell in enumerate(row) if cell[2] is None]


def splice_done(row, deed, splice):
    """Do a splice of a deed on a row, and return the makers of what it cut."""
    at, many, text = splice
    shown = shown_indexes(row)
    makers = []
    for index in shown[at:at + many]:
        letter, maker, _ = row[index]
        row[index] = (letter, maker, deed)
        makers.append(maker)
    begin = 0 if at == 0 else shown[at - 1] + 1
    row[begin:begin] = [(letter, deed, None) for letter in text]
    return makers


def zone_behind(zone, splice):
    """Return the zone as one splice moves it."""
    low, high = zone
    return (moved_place(low, 0, (splice,)), moved_place(high, 1, (splice,)))


def row_and_zones(deeds, which):
    """Return the row that the deeds make, and the zones of one of them."""
    row = []
    zones = []
    for deed, rounds in enumerate(deeds):
        for splices in rounds:
            for splice in reversed(splices):
                makers = splice_done(row, deed, splice)
                zones = [zone_behind(zone, splice) for zone in zones]
                if deed == which and any([maker != which for maker in makers]):
                    zones.append((splice[0], splice[0] + len(splice[2])))
    return (row, zones)


def is_own(row, zone, which):
    """Return whether all shown signs of a zone were put by one deed."""
    low, high = zone
    return all([row[index][1] == which for index in shown_indexes(row)[low:high]])


def plain_strike(deeds, which):
    """Return the text after a strike of one of the deeds of a new sheet, None if it cannot be struck."""
    row, zones = row_and_zones(deeds, which)
    if not all([is_own(row, zone, which) for zone in zones]):
        return None
    text = "".join([letter for letter, maker, cutter in row if maker != which and cutter in (None, which)])
    # The strike is a node too, besides the root and the deeds, and its text has to keep to the limit.
    if len(deeds) + 2 > MOST_NODES or len(text) > MOST_TEXT:
        return None
    return text
