"""Trees of pieces that are cut in two, and signs that are cut away or laid in."""

from deedstand.birthrows import chunk_size
from deedstand.cutstretches import joined_cuts
from deedstand.errors import BadPlace
from deedstand.treejoins import joined_by, joined_two
from deedstand.treenodes import node_of, shown_in, shown_of, signs_in
from deedstand.treereading import pieces_of


def check_place(tree, place):
    """Raise BadPlace if the tree has no such place."""
    if place > shown_of(tree):
        raise BadPlace(place)


def signs_until(tree, place):
    """Return the number of signs up to the shown one ahead of place, that one included."""
    if place == 0:
        return 0
    left, piece, right = tree[:3]
    begin = shown_of(left)
    end = begin + shown_in(piece)
    if place <= begin:
        return signs_until(left, place)
    if place <= end:
        return signs_in(left) + place - begin
    return signs_in(left) + piece[2] + signs_until(right, place - end)


def parted(tree, births, many):
    """Return two trees: the first has the first signs, as many as told, shown or hidden."""
    if many == 0:
        return (None, tree)
    left, piece, right = tree[:3]
    begin = signs_in(left)
    end = begin + piece[2]
    if many <= begin:
        low, high = parted(left, births, many)
        return (low, joined_by(high, piece, right, births))
    if many >= end:
        low, high = parted(right, births, many - end)
        return (joined_by(left, piece, low, births), high)
    chunk, start, size, cutters, on = piece
    first = (chunk, start, many - begin, cutters, on)
    second = (chunk, start + many - begin, end - many, cutters, on)
    return (joined_by(left, first, None, births), joined_by(None, second, right, births))


def cut_shown(tree, births, place):
    """Return two trees: the first ends directly behind the shown sign ahead of place."""
    check_place(tree, place)
    return parted(tree, births, signs_until(tree, place))


def hidden_by(tree, births, deed):
    """Return the tree in which all shown signs have deed as a cutter and are off."""
    if shown_of(tree) == 0:
        return tree
    left, piece, right = tree[:3]
    if piece[4]:
        chunk, start, many, cutters = piece[:4]
        piece = (chunk, start, many, cutters | (1 << deed), False)
    return node_of(hidden_by(left, births, deed), piece, hidden_by(right, births, deed), births)


def cut_by(tree, births, deed, place, many):
    """Return the tree in which deed cut many shown signs from place on, and their stretches."""
    check_place(tree, place)
    check_place(tree, place + many)
    left, rest = cut_shown(tree, births, place)
    middle, right = cut_shown(rest, births, many)
    stretches = [piece[:3] for piece in pieces_of(middle) if piece[4]]
    tree = joined_two(joined_two(left, hidden_by(middle, births, deed), births), right, births)
    return (tree, joined_cuts(stretches))


def laid_in(tree, births, place, chunk, *, choice=0):
    """Return the tree with all signs of a new chunk put in behind the shown sign ahead of place."""
    check_place(tree, place)
    begin = signs_until(tree, place)
    end = signs_in(tree)
    if place < shown_of(tree):
        end = signs_until(tree, place + 1) - 1
    left, right = parted(tree, births, begin + choice % (end - begin + 1))
    piece = (chunk, 0, chunk_size(births, chunk), 0, True)
    return joined_by(left, piece, right, births)
