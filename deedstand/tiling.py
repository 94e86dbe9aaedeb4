"""Screens of tiles, made from laid rows and colours."""

from deedstand.rowplaces import place_in, row_at
from deedstand.scrolling import top_row
from deedstand.settling import joined_stretches, low_high
from deedstand.textlines import row_bounds, rows_of, spot_of

SELECTED = 1
HEAD_HERE = 2
FOLD_BELOW = 4
EMPTY_TILE = (" ", 0, 0)


def lines_hidden(text, folds):
    """Return the lines that folds, told by pairs of places, hide, ascending."""
    lines = []
    for begin, end in folds:
        lines.extend(list(range(spot_of(text, begin)[0] + 1, spot_of(text, end)[0] + 1)))
    return tuple(sorted(set(lines)))


def tile_colours(spans):
    """Return the list of the colours of a row's signs."""
    colours = []
    for many, colour in spans:
        colours.extend([colour] * many)
    return colours


def selected_flags(begin, many, stretches):
    """Return the list of the flags of many signs from the place begin on; selections are told by stretches."""
    flags = [0] * many
    for low, high in stretches:
        for at in range(max(low - begin, 0), min(high - begin, many)):
            flags[at] = SELECTED
    return flags


class Tiler:
    """A text, its layout and its colours, or None, and the picks in it."""

    def __init__(self, text, tints, layout, picks, hidden):
        self.letters = text
        self.rows = rows_of(text)
        self.tints = tints
        self.width = layout.width
        self.hidden = hidden
        self.laid_rows = layout.screen_rows(hidden)
        self.stretches = joined_stretches([low_high(pick) for pick in picks if pick[0] != pick[1]])
        self.heads = {self.tile_at(head): True for _, head in picks}

    def index_at(self, place):
        """Return the index of the screen row in which a place lies."""
        line, column = spot_of(self.letters, place)
        return row_at(self.laid_rows, line, column)

    def tile_at(self, place):
        """Return the pair of the screen row's index and the tile at which a place lies."""
        line, column = spot_of(self.letters, place)
        return place_in(self.laid_rows, line, column, self.width)

    def is_above_fold(self, index):
        """Return whether a screen row is the last one of its line, and the next line is hidden."""
        line, _, end = self.laid_rows[index]
        return end == len(self.rows[line]) and line + 1 in self.hidden

    def colours_of(self, line, start, end):
        """Return the list of the colours of a line's signs from start to end - 1."""
        if self.tints is None:
            return [0] * (end - start)
        return tile_colours(self.tints.row_spans(line))[start:end]

    def tiles(self, index):
        """Return the tuple of the tiles of the screen row with an index."""
        if index >= len(self.laid_rows):
            return (EMPTY_TILE,) * self.width
        line, start, end = self.laid_rows[index]
        rest = self.width - (end - start)
        signs = self.rows[line][start:end] + " " * rest
        colours = self.colours_of(line, start, end) + [0] * rest
        begin = row_bounds(self.letters, line)[0] + start
        flags = selected_flags(begin, end - start, self.stretches) + [0] * rest
        fold = FOLD_BELOW if self.is_above_fold(index) else 0
        heads = [HEAD_HERE if (index, tile) in self.heads else 0 for tile in range(self.width)]
        return tuple([(signs[at], colours[at], flags[at] + heads[at] + fold) for at in range(self.width)])


def tiled(text, height, tints, layout, picks, folds, top):
    """Return the screen of a text; tints, or None, and layout have its rows."""
    tiler = Tiler(text, tints, layout, picks, lines_hidden(text, folds))
    first = tiler.index_at(top)
    if len(picks) > 0:
        first = top_row(first, tiler.index_at(picks[0][1]), height)
    return tuple([tiler.tiles(index) for index in range(first, first + height)])
