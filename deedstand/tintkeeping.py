"""Colours that are kept, so that no row is read twice in one mode."""

from deedstand.bookreading import first_mode
from deedstand.errors import BadPlace
from deedstand.kinds import is_below
from deedstand.lexing import lexed


class Tints:
    """The colours of the rows refreshed last, and of every pair of a mode and a row ever read."""

    def __init__(self, book):
        self.book = book
        # From (mode, row) to (spans, mode behind).
        self.known = {}
        # For each line the pair (mode, spans).
        self.lines = []

    def refresh(self, rows):
        """Colour the rows, and return the lines that had to be read, ascending."""
        fresh = []
        self.lines = []
        mode = first_mode(self.book)
        for line, row in enumerate(rows):
            if (mode, row) not in self.known:
                self.known[(mode, row)] = lexed(self.book, mode, row)
                fresh.append(line)
            spans, behind = self.known[(mode, row)]
            self.lines.append((mode, spans))
            mode = behind
        return tuple(fresh)

    def line_tint(self, line):
        """Return the pair (mode, spans) of a line."""
        if not is_below(line, len(self.lines)):
            raise BadPlace(line)
        return self.lines[line]

    def row_spans(self, line):
        """Return the spans of a line."""
        return self.line_tint(line)[1]

    def row_mode(self, line):
        """Return the mode at the begin of a line."""
        return self.line_tint(line)[0]
