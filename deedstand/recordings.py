"""Recordings of what a hand says."""

from deedstand.limits import MOST_ROWS, MOST_SIGNS


class Recording:
    """The rows of the statements that are kept for a register."""

    def __init__(self, name):
        self.name = name
        self.rows = ()
        self.is_over = False

    def keep(self, rows):
        """Keep the rows of a statement; behind the first one that is too much none is kept any more."""
        together = self.rows + rows
        if len(together) > MOST_ROWS or sum([len(row) for row in together]) > MOST_SIGNS:
            self.is_over = True
        if not self.is_over:
            self.rows = together
