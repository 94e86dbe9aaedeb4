"""Commands that are read from their rows."""

from deedstand.errors import BadLine
from deedstand.motions import WORDS
from deedstand.wordreading import WordReader

# What stands behind each word: names, numbers and texts; a word that leads; how many times, 1 if it is left out;
# which child, 0 if it is left out; numbers, at least one; how rows are wrapped; a brace.
FORMS = {
    "sheet": ("name",),
    "on": ("name",),
    "size": ("number", "number"),
    "top": ("number",),
    "fold": ("number", "number"),
    "unfold": (),
    "wrap": ("wrapping",),
    "tint": ("name",),
    "notint": (),
    "text": (),
    "picks": (),
    "put": ("text",),
    "back": ("times",),
    "del": ("times",),
    "feed": (),
    "sub": ("text", "text"),
    "indent": ("number", "number"),
    "paste": ("name",),
    "cut": ("name",),
    "move": ("way", "times"),
    "grow": ("way", "times"),
    "at": ("number", "number"),
    "span": ("number", "number", "number", "number"),
    "also": ("number", "number"),
    "all": (),
    "one": (),
    "seek": ("text",),
    "rear": ("text",),
    "pick": ("text",),
    "mark": ("name",),
    "unmark": ("name",),
    "where": ("name",),
    "jump": ("name",),
    "copy": ("name",),
    "let": ("name", "text"),
    "record": ("name",),
    "stop": (),
    "play": ("name", "times"),
    "undo": ("times",),
    "redo": ("child",),
    "go": ("number",),
    "strike": ("number",),
    "stand": ("number",),
    "turn": ("numbers",),
    "fell": ("number",),
    "touching": ("number",),
    "turnable": (),
    "standing": (),
    "nodes": (),
    "place": (),
    "load": ("name",),
    "save": (),
    "saveas": ("name",),
    "reload": (),
    "files": (),
    "unlink": ("name",),
    "rest": (),
    "pace": ("number",),
    "moment": (),
    "sure": (),
    "repeat": ("times", "brace"),
    "deed": ("brace",),
    "}": (),
}
WRAPPINGS = ("sign", "word")
BRACED = ("repeat", "deed", "}")


def read_numbers(reader):
    """Read all numbers that follow, at least one, as one tuple."""
    numbers = [reader.take("number")]
    while reader.is_next("number"):
        numbers.append(reader.take("number"))
    return tuple(numbers)


def read_left_out(reader, other):
    """Read a number of at least 1 if one follows; other stands for one that is left out."""
    if reader.is_next("number"):
        return reader.take_from(1)
    return other


def read_part(reader, kind):
    """Read a part of a command; return a list of the one argument that it is, or of none."""
    if kind == "times":
        return [read_left_out(reader, 1)]
    if kind == "child":
        return [read_left_out(reader, 0)]
    if kind == "numbers":
        return [read_numbers(reader)]
    if kind == "way":
        return [reader.take_one_of("name", WORDS)]
    if kind == "wrapping":
        return [reader.take_one_of("name", WRAPPINGS)]
    if kind == "brace":
        reader.take_one_of("sign", ("{",))
        return []
    return [reader.take(kind)]


def read_command(line):
    """Return the tuple of a command's word and its arguments."""
    reader = WordReader(line)
    word = reader.take("sign" if reader.is_next("sign") else "name")
    if word not in FORMS:
        raise BadLine(0)
    command = [word]
    for kind in FORMS[word]:
        command.extend(read_part(reader, kind))
    reader.finish()
    return tuple(command)
