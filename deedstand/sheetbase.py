"""Sheets: the nodes, the place, and what is read there."""

from deedstand.cutstretches import joined_cuts
from deedstand.deedchecks import check_deed
from deedstand.errors import NoSuch
from deedstand.kinds import is_number
from deedstand.nodeways import children_of, is_node, parent_of, path_of, road_between, stand_at
from deedstand.stands import deeds_of
from deedstand.weaves import fresh_weave


class SheetBase:
    """A sheet: its nodes, and the place that it shows."""

    def __init__(self, name, *, choices=()):
        self.name = name
        self.choices = choices
        self.weave = fresh_weave()
        self.births = self.weave.births
        self.cuts = {}
        self.nodes = (("root",),)
        self.place = 0
        self.marks = {}
        self.tie = None
        # The row at the place, as soon as it was asked for; many anchors are looked for in one row.
        self.kept_row = None

    def __iter__(self):
        """Go over the tuples of the nodes."""
        return iter(self.nodes)

    def check_node(self, node):
        """Raise NoSuch if there is no such node."""
        if not is_node(self.nodes, node):
            raise NoSuch("node", node)

    def weave_at(self, node):
        """Return the weave at a node that is there."""
        return self.weave.turned_to(stand_at(self.nodes, node))

    def show(self, node, weave):
        """Make a node the place, with its weave, and return it."""
        self.place = node
        self.weave = weave
        self.births = weave.births
        self.kept_row = None
        return node

    def grow(self, node, weave):
        """Make a new node, told by its tuple, the place, and return its number."""
        self.nodes = (*self.nodes, node)
        return self.show(len(self.nodes) - 1, weave)

    def do(self, rounds):
        """Do a deed at the place, and return its node."""
        return self.do_at(self.place, rounds)

    def do_at(self, parent, rounds):
        """Do a deed at a node, and return its node."""
        self.check_node(parent)
        weave = self.weave_at(parent)
        check_deed(self.nodes, self.births, weave.size(), rounds)
        deed = len(self.nodes)
        stretches = []
        for splices in rounds:
            weave, cut = weave.laid_round(deed, splices, choices=self.choices)
            stretches.extend(cut)
        if len(stretches) > 0:
            self.cuts[deed] = joined_cuts(stretches)
        return self.grow(("edit", parent, rounds), weave)

    def undo(self):
        """Go to the parent."""
        if self.place == 0:
            raise NoSuch("node", 0)
        return self.go(parent_of(self.nodes, self.place))

    def redo(self, *, child=None):
        """Go to the child with an index, to the youngest one if it is None."""
        children = children_of(self.nodes, self.place)
        if child is None:
            if len(children) == 0:
                raise NoSuch("child", 0)
            return self.go(children[-1])
        if not is_number(child) or child >= len(children):
            raise NoSuch("child", child)
        return self.go(children[child])

    def go(self, node):
        """Go to a node."""
        self.check_node(node)
        return self.show(node, self.weave_at(node))

    def text(self):
        """Return the text at the place."""
        return self.weave.text()

    def size(self):
        """Return the length of the text."""
        return self.weave.size()

    def row_many(self):
        """Return the number of rows."""
        return self.weave.row_many()

    def row(self, line):
        """Return a row of the text."""
        return self.weave.row(line)

    def spot(self, place):
        """Return the pair of line and column of a place."""
        return self.weave.spot(place)

    def place_at(self, line, column):
        """Return the place with this line and column, at most the end of the row."""
        return self.weave.place_at(line, column)

    def stretch(self, low, high):
        """Return the letters at the places low to high - 1."""
        return self.weave.stretch(low, high)

    def row_signs(self):
        """Return the tuple of the shown signs."""
        if self.kept_row is None:
            self.kept_row = self.weave.row_signs()
        return self.kept_row

    def standing(self):
        """Return the deeds that stand at the place, ascending."""
        return deeds_of(self.weave.stand)

    def tidy(self):
        """Make the tree of pieces anew."""
        self.weave = self.weave.tidy()

    def text_at(self, node):
        """Return the text at a node."""
        self.check_node(node)
        return self.weave_at(node).text()

    def standing_at(self, node):
        """Return the deeds that stand at a node, ascending."""
        self.check_node(node)
        return deeds_of(stand_at(self.nodes, node))

    def parent(self, node):
        """Return the parent of a node, None for the root."""
        self.check_node(node)
        return parent_of(self.nodes, node)

    def children(self, node):
        """Return the children of a node, ascending."""
        self.check_node(node)
        return children_of(self.nodes, node)

    def path(self, node):
        """Return the nodes from the root to a node."""
        self.check_node(node)
        return path_of(self.nodes, node)

    def road(self, one, other):
        """Return the steps of the road from one node to another."""
        self.check_node(one)
        self.check_node(other)
        return road_between(self.nodes, one, other)
