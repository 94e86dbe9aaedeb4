"""Trees of pieces that are made of others."""

from deedstand.treenodes import height_of, node_of


def leant_left(left, piece, right, births):
    """Return a sound tree of parts of which left is by 2 higher than right."""
    outer, middle, inner = left[:3]
    if height_of(outer) >= height_of(inner):
        return node_of(outer, middle, node_of(inner, piece, right, births), births)
    low, top, high = inner[:3]
    return node_of(node_of(outer, middle, low, births), top, node_of(high, piece, right, births), births)


def leant_right(left, piece, right, births):
    """Return a sound tree of parts of which right is by 2 higher than left."""
    inner, middle, outer = right[:3]
    if height_of(outer) >= height_of(inner):
        return node_of(node_of(left, piece, inner, births), middle, outer, births)
    low, top, high = inner[:3]
    return node_of(node_of(left, piece, low, births), top, node_of(high, middle, outer, births), births)


def balanced(left, piece, right, births):
    """Return a sound tree of parts whose heights differ by at most 2."""
    if height_of(left) > height_of(right) + 1:
        return leant_left(left, piece, right, births)
    if height_of(right) > height_of(left) + 1:
        return leant_right(left, piece, right, births)
    return node_of(left, piece, right, births)


def joined_by(left, piece, right, births):
    """Return a tree with the pieces of left, piece and those of right."""
    if height_of(left) > height_of(right) + 1:
        outer, middle, inner = left[:3]
        return balanced(outer, middle, joined_by(inner, piece, right, births), births)
    if height_of(right) > height_of(left) + 1:
        inner, middle, outer = right[:3]
        return balanced(joined_by(left, piece, inner, births), middle, outer, births)
    return node_of(left, piece, right, births)


def joined_two(left, right, births):
    """Return a tree with the pieces of left and of right."""
    if right is None:
        return left
    piece, rest = first_taken(right, births)
    return joined_by(left, piece, rest, births)


def first_taken(tree, births):
    """Return the first piece of a tree that is not None, and a tree with the others."""
    left, piece, right = tree[:3]
    if left is None:
        return (piece, right)
    first, rest = first_taken(left, births)
    return (first, joined_by(rest, piece, right, births))


def built(pieces, births):
    """Return a tree of least height with the pieces of a tuple."""
    if len(pieces) == 0:
        return None
    middle = len(pieces) // 2
    left = built(pieces[:middle], births)
    right = built(pieces[middle + 1:], births)
    return node_of(left, pieces[middle], right, births)
