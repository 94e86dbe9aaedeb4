"""Sheets in which each deed can be taken out alone."""

from deedstand.clashing import clash_in
from deedstand.errors import NoSuch, Taken, Unsettled
from deedstand.felling import fell_deeds
from deedstand.limits import MOST_NODES, MOST_TEXT, check_many
from deedstand.nodeways import is_edit
from deedstand.refusals import two_choices
from deedstand.sheetmarks import SheetMarks
from deedstand.stands import has_deed, turned
from deedstand.turning import touching_of


class Sheet(SheetMarks):
    """A sheet whose deeds can be turned."""

    def __init__(self, name, *, choices=()):
        super().__init__(name, choices=choices)

    def check_edit(self, deed):
        """Raise NoSuch if the deed is not the number of an edit node."""
        if not is_edit(self.nodes, deed):
            raise NoSuch("deed", deed)

    def check_standing(self, deed):
        """Raise NoSuch if the deed does not stand at the place."""
        self.check_edit(deed)
        if not has_deed(self.weave.stand, deed):
            raise NoSuch("deed", deed)

    def check_deeds(self, deeds):
        """Raise NoSuch if the deeds are not ascending numbers of edit nodes, at least one."""
        if len(deeds) == 0:
            raise NoSuch("deed", 0)
        before = 0
        for deed in deeds:
            self.check_edit(deed)
            if deed <= before:
                raise NoSuch("deed", deed)
            before = deed

    def weave_turned(self, deeds):
        """Return the weave at the place with the deeds turned, settled or not."""
        return self.weave.turned_to(turned(self.weave.stand, deeds))

    def turn(self, deeds):
        """Turn the deeds, and return the new node."""
        self.check_deeds(deeds)
        check_many(len(self.nodes) + 1, MOST_NODES, "nodes")
        weave = self.weave_turned(deeds)
        clash = clash_in(weave)
        if clash is not None:
            raise Unsettled(clash[0], clash[1])
        check_many(weave.size(), MOST_TEXT, "text")
        return self.grow(("turn", self.place, deeds), weave)

    def strike(self, deed):
        """Turn one deed that stands, and return the new node."""
        self.check_standing(deed)
        return self.turn((deed,))

    def stand_up(self, deed):
        """Turn one deed that does not stand, and return the new node."""
        self.check_edit(deed)
        if has_deed(self.weave.stand, deed):
            raise Taken(deed)
        return self.turn((deed,))

    def fell(self, deed):
        """Turn a deed that stands, and those that have to fall with it; return them, ascending."""
        self.check_standing(deed)
        deeds = fell_deeds(self.births, self.cuts, self.weave.stand, deed)
        self.turn(deeds)
        return deeds

    def can_turn(self, deed):
        """Return an untold pair that would be shown if a deed were turned, None if there is none."""
        self.check_edit(deed)
        return clash_in(self.weave_turned((deed,)))

    def turnable(self):
        """Return the deeds that can be turned alone, ascending."""
        deeds = [deed for deed in range(len(self.nodes)) if is_edit(self.nodes, deed)]
        return tuple([deed for deed in deeds if self.can_turn(deed) is None])

    def touching(self, deed):
        """Return the deeds touching a deed, ascending."""
        self.check_edit(deed)
        return touching_of(self.births, self.cuts, self.weave.stand, deed)

    def paper(self, deeds):
        """Return two layouts that disagree if the deeds are turned, None if that is settled."""
        self.check_deeds(deeds)
        return two_choices(self.births, self.cuts, turned(self.weave.stand, deeds))

    def trial(self):
        """Return another sheet that is the same and changes by itself."""
        other = Sheet(self.name, choices=self.choices)
        other.cuts = dict(self.cuts)
        other.nodes = self.nodes
        other.marks = dict(self.marks)
        other.tie = self.tie
        other.show(self.place, self.weave)
        return other

    def plain(self):
        """Return what the sheet is, as one tuple."""
        marks = tuple(sorted([(name, self.marks[name]) for name in self.marks]))
        return (self.name, self.nodes, self.births, self.place, marks, self.tie)
