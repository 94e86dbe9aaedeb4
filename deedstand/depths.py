"""What a row tells of the indent of the next one; without a book each sign has colour 0."""

from deedstand.lexing import lexed

OPENERS = ("(", "[", "{")
CLOSERS = (")", "]", "}")


def front_of(row):
    """Return how many spaces the row begins with."""
    return len(row) - len(row.lstrip(" "))


def stripped(row):
    """Return the row without the spaces that it begins with."""
    return row[front_of(row):]


def plain_signs(book, mode, row):
    """Return the signs of colour 0, as a text."""
    if book is None:
        return row
    parts = []
    at = 0
    for many, colour in lexed(book, mode, row)[0]:
        if colour == 0:
            parts.append(row[at:at + many])
        at += many
    return "".join(parts)


def depth_of(book, mode, row):
    """Return how many brackets stay open at the end of the row."""
    depth = 0
    for sign in plain_signs(book, mode, row):
        if sign in OPENERS:
            depth += 1
        elif sign in CLOSERS and depth > 0:
            depth -= 1
    return depth


def closes(book, mode, row):
    """Return whether the row begins with a bracket of colour 0 that closes."""
    if row == "" or row[0] not in CLOSERS:
        return False
    return book is None or lexed(book, mode, row)[0][0][1] == 0
