"""What is read from a tree of pieces, and whether it is sound."""

from deedstand.birthrows import chunk_size
from deedstand.errors import BadPlace
from deedstand.treejoins import built
from deedstand.treenodes import height_of, is_on, node_of, shown_in, shown_of, signs_in


def pieces_of(tree):
    """Give the pieces, in their sequence."""
    if tree is not None:
        left, piece, right = tree[:3]
        yield from pieces_of(left)
        yield piece
        yield from pieces_of(right)


def signs_of(tree):
    """Return the tuple of all signs, shown or hidden."""
    signs = []
    for piece in pieces_of(tree):
        chunk, start, many = piece[:3]
        signs.extend([(chunk, index) for index in range(start, start + many)])
    return tuple(signs)


def letters_within(tree, births, low, high):
    """Return the letters at the places low to high - 1, as far as the tree has them."""
    if tree is None or low >= shown_of(tree) or high <= 0:
        return ""
    left, piece, right = tree[:3]
    begin = shown_of(left)
    end = begin + shown_in(piece)
    letters = ""
    if high > begin:
        chunk, start = piece[:2]
        letters = births[chunk][3][start + max(low - begin, 0):start + min(high, end) - begin]
    ahead = letters_within(left, births, low, high)
    behind = letters_within(right, births, low - end, high - end)
    return ahead + letters + behind


def text_between(tree, births, low, high):
    """Return the letters of the shown signs at the places low to high - 1."""
    size = shown_of(tree)
    if low > size:
        raise BadPlace(low)
    if high > size or high < low:
        raise BadPlace(high)
    return letters_within(tree, births, low, high)


def piece_fits(births, stand, piece):
    """Return whether a piece lies within its chunk, and is on exactly if it has to be."""
    chunk, start, many, cutters, on = piece
    if not 1 <= chunk < len(births) or many < 1 or start + many > chunk_size(births, chunk):
        return False
    return on == is_on(births, stand, chunk, cutters)


def nodes_fit(tree, births, stand):
    """Return whether all nodes of a tree have right pieces, numbers and heights."""
    if tree is None:
        return True
    left, piece, right = tree[:3]
    if not piece_fits(births, stand, piece) or abs(height_of(left) - height_of(right)) > 1:
        return False
    # The numbers of the subtrees are taken as they stand here; they are looked at in their turn.
    if tree[3:] != node_of(left, piece, right, births)[3:]:
        return False
    return nodes_fit(left, births, stand) and nodes_fit(right, births, stand)


def is_sound(tree, births, stand):
    """Return whether a tree is sound."""
    # A subtree may stand in a tree at many places; only few do where the signs are not too many.
    if signs_in(tree) > sum([chunk_size(births, chunk) for chunk in range(1, len(births))]):
        return False
    if not nodes_fit(tree, births, stand):
        return False
    signs = signs_of(tree)
    return len(set(signs)) == len(signs)


def tidied(tree, births):
    """Return a tree of least height in which pieces that continue each other are joined."""
    pieces = []
    for piece in pieces_of(tree):
        chunk, start, many, cutters, on = piece
        if len(pieces) > 0 and continues(pieces[-1], piece):
            begin, ahead = pieces[-1][1:3]
            pieces[-1] = (chunk, begin, ahead + many, cutters, on)
        else:
            pieces.append(piece)
    return built(tuple(pieces), births)


def continues(before, piece):
    """Return whether a piece continues the one ahead of it."""
    if before[0] != piece[0] or before[3] != piece[3]:
        return False
    return before[1] + before[2] == piece[1]
