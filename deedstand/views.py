"""Views: what a hand sees of one sheet."""

from deedstand.errors import TooMuch
from deedstand.folding import fold_held, fold_hides, hidden_lines
from deedstand.limits import LEAST_HEIGHT, LEAST_WIDTH, MOST_FOLDS, MOST_HEIGHT, MOST_PICKS, MOST_WIDTH, check_many
from deedstand.pickmarks import pick_held, pick_told
from deedstand.settling import settled_picks

FIRST_ANCHOR = (0, 0, 0)


class View:
    """Picks, folds, a top line and a size; the sheet itself is passed to each call."""

    def __init__(self, *, width=80, height=24, wordwise=False):
        self.width = width
        self.height = height
        self.wordwise = wordwise
        self.held = ((FIRST_ANCHOR, FIRST_ANCHOR),)
        self.folded = ()
        self.top = FIRST_ANCHOR
        self.book = None

    def places(self, sheet):
        """Return the settled picks of those that are held."""
        return settled_picks([pick_told(sheet, held) for held in self.held])

    def hold(self, sheet, picks):
        """Settle the picks, and hold those that result."""
        settled = settled_picks(picks)
        check_many(len(settled), MOST_PICKS, "picks")
        self.held = tuple([pick_held(sheet, tail, head) for tail, head in settled])

    def fold(self, sheet, first, last):
        """Put the fold of two lines behind the others."""
        held = fold_held(sheet, first, last)
        check_many(len(self.folded) + 1, MOST_FOLDS, "folds")
        self.folded = (*self.folded, held)

    def unfold(self, sheet, line):
        """Take away all folds that begin at most at a line and end at least there."""
        kept = []
        for held in self.folded:
            first, last = fold_hides(sheet, held)
            if not first <= line <= last:
                kept.append(held)
        self.folded = tuple(kept)

    def hidden(self, sheet):
        """Return the lines that are hidden, ascending."""
        return hidden_lines(sheet, self.folded)

    def top_place(self, sheet):
        """Return the place of the top."""
        return sheet.where(self.top)

    def set_top(self, sheet, line):
        """Hold the top at the first place of a line."""
        self.top = sheet.anchor(sheet.place_at(line, 0), 0)

    def resize(self, width, height):
        """Set the size."""
        if not LEAST_WIDTH <= width <= MOST_WIDTH or not LEAST_HEIGHT <= height <= MOST_HEIGHT:
            raise TooMuch("size")
        self.width = width
        self.height = height

    def wrap(self, wordwise):
        """Set whether rows are wrapped at words."""
        self.wordwise = wordwise

    def dye(self, book):
        """Set the book."""
        self.book = book
