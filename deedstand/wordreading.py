"""Words of a line that are read one after another."""

from deedstand.errors import BadLine
from deedstand.linewords import placed_words


class WordReader:
    """The words of a line; each is taken as what can stand there, or BadLine tells where it begins."""

    def __init__(self, line):
        self.words = placed_words(line)
        self.length = len(line)
        self.taken = 0

    def place(self):
        """Return where the next word begins, or the length of the line."""
        if self.taken == len(self.words):
            return self.length
        return self.words[self.taken][0]

    def is_next(self, kind):
        """Return whether the next word is of a kind."""
        return self.taken < len(self.words) and self.words[self.taken][1][0] == kind

    def take(self, kind):
        """Return what the next word, which is of a kind, tells."""
        if not self.is_next(kind):
            raise BadLine(self.place())
        self.taken += 1
        return self.words[self.taken - 1][1][1]

    def take_from(self, least):
        """Return the next word, which is a number of at least least."""
        at = self.place()
        number = self.take("number")
        if number < least:
            raise BadLine(at)
        return number

    def take_one_of(self, kind, choices):
        """Return what the next word tells, which is of a kind and one of the choices, a tuple."""
        at = self.place()
        told = self.take(kind)
        if told not in choices:
            raise BadLine(at)
        return told

    def finish(self):
        """Raise BadLine if there is a word left."""
        if self.taken < len(self.words):
            raise BadLine(self.place())
