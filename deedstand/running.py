"""Machines that run over texts."""

from deedstand.closures import closed
from deedstand.patterntrees import holds
from deedstand.textlines import ends_line, starts_line


class Runner:
    """A machine and a text; each set of states that the machine comes to is found once, and has a number."""

    def __init__(self, machine, text):
        self.machine = machine
        self.letters = text
        self.state_sets = []
        self.numbers = {}
        self.hits = []
        self.begins = {}
        self.steps = {}
        # From a place to the set that was last found there to have no end any more.
        self.dead = {}

    def number_of(self, states, at):
        """Return the number of the set of states come to from some, at a place, without a sign."""
        states = closed(self.machine, states, starts_line(self.letters, at), ends_line(self.letters, at))
        if states not in self.numbers:
            self.numbers[states] = len(self.state_sets)
            self.state_sets.append(states)
            self.hits.append(any([self.machine[state][0] == "hit" for state in states]))
        return self.numbers[states]

    def begin(self, at):
        """Return the number of the set at a place at which the machine begins."""
        key = (starts_line(self.letters, at), ends_line(self.letters, at))
        if key not in self.begins:
            self.begins[key] = self.number_of((0,), at)
        return self.begins[key]

    def goals(self, number, sign):
        """Return the states to which those of a set lead by a sign, in any sequence."""
        states = [self.machine[state] for state in self.state_sets[number]]
        return [state[2] for state in states if state[0] == "sign" and holds(state[1], sign)]

    def step(self, number, at):
        """Return the number of the set come to from a set by the sign behind a place."""
        sign = self.letters[at]
        # The sign tells whether a line starts behind it, but not whether one ends there.
        key = (number, sign, ends_line(self.letters, at + 1))
        if key not in self.steps:
            self.steps[key] = self.number_of(self.goals(number, sign), at + 1)
        return self.steps[key]

    def goes_on(self, number, at):
        """Return whether there is a step from a set at a place."""
        return at < len(self.letters) and len(self.state_sets[number]) > 0

    def ends(self, at):
        """Return a list of the ends of the machine at a place, ascending."""
        found = []
        number = self.begin(at)
        while self.goes_on(number, at):
            if self.hits[number]:
                found.append(at)
            number = self.step(number, at)
            at += 1
        if self.hits[number]:
            found.append(at)
        return found

    def last_end(self, at):
        """Return the greatest end of the machine at a place, or None."""
        last = None
        passed = []
        number = self.begin(at)
        # Runs from many places soon come to the same sets; where one had no end, the next one stops.
        while self.goes_on(number, at) and self.dead.get(at, None) != number:
            if self.hits[number]:
                last = at
                passed = []
            else:
                passed.append((at, number))
            number = self.step(number, at)
            at += 1
        if self.hits[number]:
            return at
        for place, number in passed:
            self.dead[place] = number
        return last
