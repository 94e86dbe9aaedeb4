"""Records that are read from their rows."""

from deedstand.errors import BadLine
from deedstand.wordreading import WordReader


def read_splice(reader):
    """Read a splice."""
    at = reader.take("number")
    cut = reader.take("number")
    return (at, cut, reader.take("text"))


def read_rounds(reader):
    """Read rounds, at least one, of at least one splice each."""
    rounds = [[read_splice(reader)]]
    while reader.is_next("sign"):
        if reader.take_one_of("sign", (",", "/")) == "/":
            rounds.append([])
        rounds[-1].append(read_splice(reader))
    return tuple([tuple(splices) for splices in rounds])


def read_sheet(reader):
    """Read what stands behind the word sheet."""
    return (reader.take("name"),)


def read_edit(reader):
    """Read what stands behind the word edit."""
    number = reader.take_from(1)
    parent = reader.take("number")
    return (number, parent, read_rounds(reader))


def read_turn(reader):
    """Read what stands behind the word turn."""
    number = reader.take_from(1)
    parent = reader.take("number")
    deeds = [reader.take("number")]
    while reader.is_next("number"):
        deeds.append(reader.take("number"))
    return (number, parent, tuple(deeds))


def read_go(reader):
    """Read what stands behind the word go."""
    number = reader.take_from(1)
    return (number, reader.take("number"))


def read_mark(reader):
    """Read what stands behind the word mark."""
    number = reader.take_from(1)
    name = reader.take("name")
    chunk = reader.take("number")
    index = reader.take("number")
    return (number, name, chunk, index, reader.take_one_of("number", (0, 1)))


def read_unmark(reader):
    """Read what stands behind the word unmark."""
    number = reader.take_from(1)
    return (number, reader.take("name"))


def read_keep(reader):
    """Read what stands behind the word keep."""
    name = reader.take("name")
    rows = []
    while reader.is_next("text"):
        rows.append(reader.take("text"))
    return (name, tuple(rows))


def read_tie(reader):
    """Read what stands behind the word tie."""
    number = reader.take_from(1)
    name = reader.take("name")
    seen = reader.take("number")
    return (number, name, seen, reader.take("number"))


READERS = {
    "sheet": read_sheet,
    "edit": read_edit,
    "turn": read_turn,
    "go": read_go,
    "mark": read_mark,
    "unmark": read_unmark,
    "keep": read_keep,
    "tie": read_tie,
}


def record_of(row):
    """Return the record with this row."""
    reader = WordReader(row)
    word = reader.take("name")
    if word not in READERS:
        raise BadLine(0)
    read_rest = READERS[word]
    record = (word,) + read_rest(reader)
    reader.finish()
    return record
