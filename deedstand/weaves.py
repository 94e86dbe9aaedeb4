"""Weaves: births, a stand, and a tree with all signs but the border's."""

from deedstand.birthrows import END, HEAD, born, fresh_births
from deedstand.cutstretches import joined_cuts
from deedstand.errors import BadPlace
from deedstand.keepers import choice_for
from deedstand.restanding import restood
from deedstand.splicing import check_round
from deedstand.stands import stand_of
from deedstand.treecuts import cut_by, laid_in
from deedstand.treefinds import feed_place, feeds_ahead, sign_shown
from deedstand.treenodes import feeds_of, shown_of
from deedstand.treereading import pieces_of, text_between, tidied


class Weave:
    """A weave; it never changes."""

    def __init__(self, births, stand, tree):
        self.births = births
        self.stand = stand
        self.tree = tree

    def text(self):
        """Return the letters of the shown signs."""
        return text_between(self.tree, self.births, 0, self.size())

    def size(self):
        """Return the length of the text."""
        return shown_of(self.tree)

    def row_many(self):
        """Return the number of rows."""
        return feeds_of(self.tree) + 1

    def row(self, line):
        """Return a row of the text."""
        return self.stretch(self.row_start(line), self.row_end(line))

    def row_start(self, line):
        """Return the place where a row begins."""
        if line >= self.row_many():
            raise BadPlace(line)
        if line == 0:
            return 0
        return feed_place(self.tree, self.births, line - 1) + 1

    def row_end(self, line):
        """Return the place where a row that is there ends."""
        if line == feeds_of(self.tree):
            return self.size()
        return feed_place(self.tree, self.births, line)

    def spot(self, place):
        """Return the pair of line and column of a place."""
        line = feeds_ahead(self.tree, self.births, place)
        return (line, place - self.row_start(line))

    def place_at(self, line, column):
        """Return the place with this line and column, at most the end of the row."""
        return min(self.row_start(line) + column, self.row_end(line))

    def sign_before(self, place):
        """Return the shown sign ahead of a place, or HEAD."""
        if place > self.size():
            raise BadPlace(place)
        if place == 0:
            return HEAD
        return sign_shown(self.tree, place - 1)

    def sign_behind(self, place):
        """Return the shown sign at a place, or END."""
        if place == self.size():
            return END
        return sign_shown(self.tree, place)

    def stretch(self, low, high):
        """Return the letters at the places low to high - 1."""
        return text_between(self.tree, self.births, low, high)

    def row_signs(self):
        """Return the tuple of the shown signs."""
        signs = []
        for chunk, start, many, _, on in pieces_of(self.tree):
            if on:
                signs.extend([(chunk, index) for index in range(start, start + many)])
        return tuple(signs)

    def laid_round(self, deed, splices, *, choices=()):
        """Return the weave on which deed did the round, and the stretches that it cut."""
        check_round(self.size(), splices)
        weave = Weave(self.births, self.stand | stand_of((deed,)), self.tree)
        stretches = []
        for splice in reversed(splices):
            weave, cut = laid_splice(weave, deed, splice, choices)
            stretches.extend(cut)
        return (weave, joined_cuts(stretches))

    def turned_to(self, stand):
        """Return the weave with the same sequence of signs and this stand."""
        tree = restood(self.tree, self.births, stand, stand ^ self.stand)
        return Weave(self.births, stand, tree)

    def tidy(self):
        """Return the weave with its tree tidied."""
        return Weave(self.births, self.stand, tidied(self.tree, self.births))


def laid_splice(weave, deed, splice, choices):
    """Return the weave, at which deed stands, on which it did one splice, and the stretches that it cut."""
    at, many, text = splice
    tree, cut = cut_by(weave.tree, weave.births, deed, at, many)
    weave = Weave(weave.births, weave.stand, tree)
    if text == "":
        return (weave, cut)
    births = born(weave.births, deed, weave.sign_before(at), weave.sign_behind(at), text)
    chunk = len(births) - 1
    tree = laid_in(tree, births, at, chunk, choice=choice_for(choices, chunk))
    return (Weave(births, weave.stand, tree), cut)


def fresh_weave():
    """Return the weave that has no sign but the border's."""
    return Weave(fresh_births(), 0, None)
