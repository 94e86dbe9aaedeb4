"""Sheets with anchors and marks."""

from deedstand.birthrows import is_sign
from deedstand.errors import NoSuch
from deedstand.gapplaces import anchor_at, anchor_place, gap_of
from deedstand.limits import MOST_MARKS, check_many
from deedstand.sheetbase import SheetBase


class SheetMarks(SheetBase):
    """A sheet whose places are held by anchors."""

    def __init__(self, name, *, choices=()):
        super().__init__(name, choices=choices)

    def anchor(self, place, side):
        """Return the anchor at a place."""
        return anchor_at(self.row_signs(), place, side)

    def where(self, anchor):
        """Return the place of an anchor."""
        return anchor_place(self.births, self.row_signs(), anchor)

    def gap(self, sign):
        """Return the gap of a sign."""
        return gap_of(self.births, self.row_signs(), sign)

    def set_mark(self, name, anchor):
        """Set a mark, new or anew."""
        if not is_sign(self.births, anchor[:2]):
            raise NoSuch("sign", anchor[0])
        if name not in self.marks:
            check_many(len(self.marks) + 1, MOST_MARKS, "marks")
        self.marks[name] = anchor

    def drop_mark(self, name):
        """Take a mark away."""
        if name not in self.marks:
            raise NoSuch("mark", name)
        del self.marks[name]

    def mark_places(self):
        """Return the pairs of the marks' names and places, ascending."""
        return tuple(sorted([(name, self.where(self.marks[name])) for name in self.marks]))
