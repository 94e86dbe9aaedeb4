"""Trees that are made sound for another stand."""

from deedstand.treenodes import is_on, mask_of, node_of


def restood(tree, births, stand, flip):
    """Return the tree made sound for stand; flip has the bits in which the stands differ."""
    if mask_of(tree) & flip == 0:
        return tree
    left, piece, right = tree[:3]
    chunk, start, many, cutters = piece[:4]
    piece = (chunk, start, many, cutters, is_on(births, stand, chunk, cutters))
    left = restood(left, births, stand, flip)
    right = restood(right, births, stand, flip)
    return node_of(left, piece, right, births)
