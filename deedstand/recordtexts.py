"""Rows of records."""

from deedstand.quoting import quote


def splice_words(splice):
    """Return the words of a splice."""
    at, cut, text = splice
    return f"{at} {cut} {quote(text)}"


def rounds_words(rounds):
    """Return the words of rounds; a comma parts splices, a slash rounds."""
    return " / ".join([" , ".join([splice_words(splice) for splice in splices]) for splices in rounds])


def last_words(record):
    """Return a list of the words of the last part of a record."""
    word = record[0]
    part = record[-1]
    if word == "edit":
        return [rounds_words(part)]
    if word == "turn":
        return [str(deed) for deed in part]
    if word == "keep":
        return [quote(row) for row in part]
    return [str(part)]


def row_of_record(record):
    """Return the row of a record."""
    return " ".join([str(part) for part in record[:-1]] + last_words(record))
