"""Folds: lines that are hidden, held by anchors."""

from deedstand.errors import BadPlace


def fold_held(sheet, first, last):
    """Return the anchors that hold the fold of two lines."""
    begin = sheet.place_at(first, 0)
    if last <= first:
        raise BadPlace(last)
    end = sheet.place_at(last, sheet.size())
    return (sheet.anchor(begin, 0), sheet.anchor(end, 0))


def fold_hides(sheet, held):
    """Return the pair of lines of a fold: that which stays, and the last one that is hidden."""
    first, last = [sheet.spot(sheet.where(anchor))[0] for anchor in held]
    return (first, max(first, last))


def hidden_lines(sheet, folds):
    """Return the lines that the folds hide, ascending."""
    lines = []
    for held in folds:
        first, last = fold_hides(sheet, held)
        lines.extend(list(range(first + 1, last + 1)))
    return tuple(sorted(set(lines)))
