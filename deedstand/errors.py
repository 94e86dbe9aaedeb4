"""All errors of the package; their fields are any values, kept as they are."""


class DeskError(ValueError):
    """The base class of all errors."""

    def word(self):
        """Return the name of the object's class."""
        return self.__class__.__name__


class BadText(DeskError):
    """A value is no text; at is the index of its first strange sign, -1 if it is no string."""

    def __init__(self, at):
        self.at = at


class BadPlace(DeskError):
    """There is no such place or line."""

    def __init__(self, at):
        self.at = at


class BadSplice(DeskError):
    """A round has no splice at index at; -1 stands for an empty round or deed."""

    def __init__(self, at):
        self.at = at


class BadLine(DeskError):
    """The sign at index at cannot stand there, or the line ends too soon."""

    def __init__(self, at):
        self.at = at


class BadPattern(DeskError):
    """The sign of a pattern at index at cannot stand there."""

    def __init__(self, at):
        self.at = at


class BadBook(DeskError):
    """A line of a book cannot stand there."""

    def __init__(self, line):
        self.line = line


class BadRoll(DeskError):
    """A row of a roll cannot stand there."""

    def __init__(self, row):
        self.row = row


class NoSuch(DeskError):
    """There is no such thing."""

    def __init__(self, what, name):
        self.what = what
        self.name = name


class Taken(DeskError):
    """What is to be made is there."""

    def __init__(self, name):
        self.name = name


class Unsettled(DeskError):
    """Two signs that would be shown are untold."""

    def __init__(self, one, other):
        self.one = one
        self.other = other


class Elder(DeskError):
    """The file was written by another sheet, or from outside."""

    def __init__(self, name):
        self.name = name


class Full(DeskError):
    """The disk has no room."""

    def __init__(self):
        pass


class TooMuch(DeskError):
    """A limit would be passed."""

    def __init__(self, what):
        self.what = what


class BadDisk(DeskError):
    """The disk has no such block, or it cannot be written so."""

    def __init__(self, block):
        self.block = block


class Halt(DeskError):
    """The steps of the disk are used up."""

    def __init__(self):
        pass
