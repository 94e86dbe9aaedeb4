"""The nodes of a tree of pieces, and the five numbers of each."""

from deedstand.stands import has_deed


def height_of(tree):
    """Return the height."""
    if tree is None:
        return 0
    return tree[3]


def shown_of(tree):
    """Return the number of shown signs."""
    if tree is None:
        return 0
    return tree[4]


def feeds_of(tree):
    """Return the number of shown feeds."""
    if tree is None:
        return 0
    return tree[5]


def signs_in(tree):
    """Return the number of signs, shown or hidden."""
    if tree is None:
        return 0
    return tree[6]


def mask_of(tree):
    """Return the number with the bits of all makers and cutters."""
    if tree is None:
        return 0
    return tree[7]


def shown_in(piece):
    """Return the number of shown signs of a piece."""
    if piece[4]:
        return piece[2]
    return 0


def feeds_in(piece, births):
    """Return the number of shown feeds of a piece."""
    chunk, start, many = piece[:3]
    if piece[4]:
        return births[chunk][3].count("\n", start, start + many)
    return 0


def bits_in(piece, births):
    """Return the number with the bits of the maker and the cutters of a piece."""
    return (1 << births[piece[0]][0]) | piece[3]


def is_on(births, stand, chunk, cutters):
    """Return whether a piece of a chunk with these cutters is on."""
    return has_deed(stand, births[chunk][0]) and cutters & stand == 0


def node_of(left, piece, right, births):
    """Return the tree with these parts."""
    return (
        left,
        piece,
        right,
        1 + max(height_of(left), height_of(right)),
        shown_of(left) + shown_in(piece) + shown_of(right),
        feeds_of(left) + feeds_in(piece, births) + feeds_of(right),
        signs_in(left) + piece[2] + signs_in(right),
        mask_of(left) | bits_in(piece, births) | mask_of(right),
    )
