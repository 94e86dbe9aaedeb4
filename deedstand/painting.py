"""What has to be painted to come from one screen to another."""


def row_paints(row, old, new):
    """Return the list of the longest runs of tiles of the screen row with an index that differ."""
    runs = []
    begin = None
    for column, tile in enumerate(new):
        if tile == old[column]:
            begin = None
        elif begin is None:
            begin = column
            runs.append((row, column, (tile,)))
        else:
            runs[-1] = (row, begin, new[begin:column + 1])
    return runs


def paints(old, new):
    """Return the runs of tiles of the screen new that differ from the screen old, ascending."""
    runs = []
    for row, tiles in enumerate(new):
        runs.extend(row_paints(row, old[row], tiles))
    return tuple(runs)


def painted(old, runs):
    """Return the screen with the runs painted on it; where they overlap the later one counts."""
    rows = [list(tiles) for tiles in old]
    for row, column, tiles in runs:
        rows[row][column:column + len(tiles)] = tiles
    return tuple([tuple(tiles) for tiles in rows])
