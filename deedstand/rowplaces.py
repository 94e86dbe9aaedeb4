"""Where lines and columns lie in screen rows."""


def row_at(screen_rows, line, column):
    """Return the index of the screen row in which a column of a line lies."""
    # Line 0 is shown, so the first screen row is never behind what is looked for.
    low = 0
    high = len(screen_rows)
    while high - low > 1:
        middle = (low + high) // 2
        if screen_rows[middle][:2] <= (line, column):
            low = middle
        else:
            high = middle
    return low


def place_in(screen_rows, line, column, width):
    """Return the pair of the index of the screen row, and the tile, in which a column of a line lies."""
    index = row_at(screen_rows, line, column)
    shown, start, end = screen_rows[index]
    if shown != line:
        return (index, min(width - 1, end - start))
    return (index, min(width - 1, column - start))
