"""Rows that are cut into pieces of at most one width."""


def piece_end(row, start, width, wordwise):
    """Return where the piece that begins at start, ahead of more signs than width, ends."""
    if wordwise:
        space = row.rfind(" ", start, start + width)
        if space >= 0:
            return space + 1
    return start + width


def laid(row, width, *, wordwise=False):
    """Return the pairs (start, end) of the pieces of a row."""
    pieces = []
    start = 0
    while len(row) - start > width:
        end = piece_end(row, start, width, wordwise)
        pieces.append((start, end))
        start = end
    pieces.append((start, len(row)))
    return tuple(pieces)
