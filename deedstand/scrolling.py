"""Which screen row stands on top."""


def top_row(first, caret, height):
    """Return the nearest number to first from which height rows contain caret."""
    if caret < first:
        return caret
    if caret >= first + height:
        return caret - height + 1
    return first
