"""Picks that are held by anchors."""


def pick_held(sheet, tail, head):
    """Return the pair of anchors that holds a pick."""
    # The lower end holds to the sign behind it, the higher one to the sign ahead of it; a caret to the one ahead.
    tail_side = 1 if tail < head else 0
    head_side = 1 if head < tail else 0
    return (sheet.anchor(tail, tail_side), sheet.anchor(head, head_side))


def pick_told(sheet, held):
    """Return the pick that a pair of anchors tells at the sheet's place."""
    tail, head = [sheet.where(anchor) for anchor in held]
    # The anchor with side 1 is that of low.
    low, high = (head, tail) if held[1][2] == 1 else (tail, head)
    if low > high:
        return (high, high)
    return (tail, head)
