"""What is found in a tree of pieces."""

from deedstand.errors import BadPlace
from deedstand.treenodes import feeds_in, feeds_of, mask_of, shown_in, shown_of


def sign_found(tree, place):
    """Return the shown sign at a place that the tree has."""
    left, piece, right = tree[:3]
    begin = shown_of(left)
    end = begin + shown_in(piece)
    if place < begin:
        return sign_found(left, place)
    if place >= end:
        return sign_found(right, place - end)
    return (piece[0], piece[1] + place - begin)


def sign_shown(tree, place):
    """Return the shown sign at a place."""
    if place >= shown_of(tree):
        raise BadPlace(place)
    return sign_found(tree, place)


def feed_found(tree, births, many):
    """Return the place of a shown feed that the tree has."""
    left, piece, right = tree[:3]
    begin = feeds_of(left)
    end = begin + feeds_in(piece, births)
    if many < begin:
        return feed_found(left, births, many)
    if many >= end:
        return shown_of(left) + shown_in(piece) + feed_found(right, births, many - end)
    chunk, start = piece[:2]
    at = births[chunk][3].index("\n", start)
    for _ in range(many - begin):
        at = births[chunk][3].index("\n", at + 1)
    return shown_of(left) + at - start


def feed_place(tree, births, many):
    """Return the place of the shown feed with index many."""
    if many >= feeds_of(tree):
        raise BadPlace(many)
    return feed_found(tree, births, many)


def feeds_until(tree, births, place):
    """Return the number of shown feeds ahead of a place that the tree has."""
    if place == 0:
        return 0
    left, piece, right = tree[:3]
    begin = shown_of(left)
    end = begin + shown_in(piece)
    if place <= begin:
        return feeds_until(left, births, place)
    if place >= end:
        return feeds_of(left) + feeds_in(piece, births) + feeds_until(right, births, place - end)
    chunk, start = piece[:2]
    return feeds_of(left) + births[chunk][3].count("\n", start, start + place - begin)


def feeds_ahead(tree, births, place):
    """Return the number of shown feeds ahead of a place."""
    if place > shown_of(tree):
        raise BadPlace(place)
    return feeds_until(tree, births, place)


def sought(tree, bit, sign):
    """Return what shown_ahead does, None if the tree does not have the sign; bit is that of its maker."""
    if mask_of(tree) & bit == 0:
        return None
    left, piece, right = tree[:3]
    found = sought(left, bit, sign)
    if found is not None:
        return found
    chunk, start, many, _, on = piece
    begin = shown_of(left)
    if chunk == sign[0] and start <= sign[1] < start + many:
        ahead = sign[1] - start if on else 0
        return (begin + ahead, on)
    found = sought(right, bit, sign)
    if found is None:
        return None
    return (begin + shown_in(piece) + found[0], found[1])


def shown_ahead(tree, births, sign):
    """Return the number of shown signs ahead of a sign of the tree, and whether it is shown."""
    return sought(tree, 1 << births[sign[0]][0], sign)
