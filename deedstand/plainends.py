"""The ends of trees, as they are told, without machines."""

from deedstand.patterntrees import holds
from deedstand.textlines import ends_line, starts_line


def times_from(tree, text, places, least, most):
    """Return ascending the places come to from any of some by a tree that is repeated."""
    for _ in range(least):
        behind = ends_from(tree, text, places)
        if behind == places:
            # Further times lead to the same places; repeats of nothing in such repeats would be very many.
            break
        places = behind
    found = {place: True for place in places}
    many = least
    while len(places) > 0 and (most is None or many < most):
        places = [place for place in ends_from(tree, text, places) if place not in found]
        for place in places:
            found[place] = True
        many += 1
    return sorted(found)


def ends_from(tree, text, places):
    """Return ascending the ends of the tree at any of some places, which ascend too."""
    kind = tree[0]
    if kind == "sign":
        return [place + 1 for place in places if place < len(text) and holds(tree[1], text[place])]
    if kind == "start":
        return [place for place in places if starts_line(text, place)]
    if kind == "finish":
        return [place for place in places if ends_line(text, place)]
    if kind == "row":
        for part in tree[1]:
            places = ends_from(part, text, places)
        return places
    if kind == "choice":
        return sorted(set([end for branch in tree[1] for end in ends_from(branch, text, places)]))
    return times_from(tree[1], text, places, tree[2], tree[3])


def tree_ends(tree, text, at):
    """Return ascending the ends of the tree at a place."""
    return tuple(ends_from(tree, text, [at]))
