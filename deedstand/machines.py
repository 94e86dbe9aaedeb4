"""Machines that take what trees of patterns take."""


def state_many(tree):
    """Return the number of states of a tree."""
    kind = tree[0]
    if kind == "row":
        return sum([state_many(part) for part in tree[1]])
    if kind == "choice":
        return sum([state_many(branch) for branch in tree[1]]) + len(tree[1]) - 1
    if kind == "times":
        many = state_many(tree[1])
        least, most = tree[2:]
        if most is None:
            return (least + 1) * many + 1
        return most * many + most - least
    return 1


class MachineMaker:
    """The states of a machine, made from its last one to its first one."""

    def __init__(self, many):
        self.many = many
        self.states = []

    def index_behind(self, many):
        """Return the index that a state gets when many others were made before it."""
        return self.many - len(self.states) - many

    def make(self, state):
        """Make a state, and return its index."""
        index = self.index_behind(0)
        self.states.append(state)
        return index

    def lay(self, tree, goal):
        """Make the states of a tree that lead on to goal, and return the one at which it begins."""
        kind = tree[0]
        if kind == "sign":
            return self.make((kind, tree[1], goal))
        if kind == "row":
            for part in reversed(tree[1]):
                goal = self.lay(part, goal)
            return goal
        if kind == "choice":
            begin = self.lay(tree[1][-1], goal)
            for branch in reversed(tree[1][:-1]):
                begin = self.make(("split", self.lay(branch, goal), begin))
            return begin
        if kind == "times":
            return self.lay_times(tree[1], tree[2], tree[3], goal)
        return self.make((kind, goal))

    def lay_times(self, tree, least, most, goal):
        """Make the states of a tree that is repeated, and return the one at which it begins."""
        many = state_many(tree)
        begin = goal
        if most is None:
            loop = self.index_behind(many)
            begin = self.make(("split", self.lay(tree, loop), goal))
        else:
            for _ in range(most - least):
                begin = self.make(("split", self.lay(tree, begin), goal))
        # A tree without states is passed over, as repeats of it in repeats of it would be very many.
        for _ in range(least if many > 0 else 0):
            begin = self.lay(tree, begin)
        return begin


def machine_of(tree):
    """Return a machine that has the ends of the tree."""
    maker = MachineMaker(state_many(tree))
    # What is made last begins, so it comes to stand at index 0.
    maker.lay(tree, maker.make(("hit",)))
    return tuple(maker.states[::-1])
