"""Laid rows that are kept, so that no row is laid twice."""

from deedstand.errors import BadPlace
from deedstand.kinds import is_below
from deedstand.laying import laid


class Layout:
    """How the rows refreshed last are laid, and every row ever met."""

    def __init__(self, width, *, wordwise=False):
        self.width = width
        self.wordwise = wordwise
        # From rows to their pieces.
        self.known = {}
        # For each line its pieces.
        self.lines = []

    def refresh(self, rows):
        """Lay the rows, and return the lines whose row is new, ascending."""
        fresh = []
        for line, row in enumerate(rows):
            if row not in self.known:
                self.known[row] = laid(row, self.width, wordwise=self.wordwise)
                fresh.append(line)
        self.lines = [self.known[row] for row in rows]
        return tuple(fresh)

    def bounds(self, line):
        """Return the pieces of a line's row."""
        if not is_below(line, len(self.lines)):
            raise BadPlace(line)
        return self.lines[line]

    def screen_rows(self, hidden):
        """Return the screen rows of all lines but the hidden ones."""
        away = {line: True for line in hidden}
        found = []
        for line, pieces in enumerate(self.lines):
            if line not in away:
                found.extend([(line, start, end) for start, end in pieces])
        return tuple(found)
