"""Rolls: rows of commands and blocks."""

from deedstand.commandwords import BRACED, read_command
from deedstand.errors import BadLine, BadRoll
from deedstand.limits import MOST_BLOCKS

# A roll is read as a tuple of statements: (first row, last row, command, statements of the block, or none).

IN_DEEDS = (
    "repeat", "}", "put", "feed", "back", "del", "move", "grow", "at", "span", "also", "all", "one", "seek", "rear",
    "pick", "paste", "sub", "indent",
)
RECORDING = ("record", "stop")


def command_in(rows, row):
    """Return the command in the row with an index."""
    try:
        return read_command(rows[row])
    except BadLine:
        raise BadRoll(row)


def may_stand(word, around, played):
    """Return whether a command can stand within the blocks around it, told by a list of their words."""
    if word == "}" and len(around) == 0:
        return False
    if word in BRACED and word != "}" and len(around) == MOST_BLOCKS:
        return False
    if word in RECORDING and (played or len(around) > 0):
        return False
    return "deed" not in around or word in IN_DEEDS


def statements_of(rows, played):
    """Return the statements of a roll; played tells whether it is that of a play."""
    # Blocks that are open: (first row, command, list of statements); the roll itself is the first one.
    blocks = [(0, (), [])]
    for row, line in enumerate(rows):
        if line == "" or line.startswith("#"):
            continue
        command = command_in(rows, row)
        if not may_stand(command[0], [block[1][0] for block in blocks[1:]], played):
            raise BadRoll(row)
        if command[0] == "}":
            first, begun, inside = blocks.pop()
            blocks[-1][2].append((first, row, begun, tuple(inside)))
        elif command[0] in BRACED:
            blocks.append((row, command, []))
        else:
            blocks[-1][2].append((row, row, command, ()))
    if len(blocks) > 1:
        raise BadRoll(len(rows))
    return tuple(blocks[0][2])


def read_roll(rows):
    """Return the statements of a roll."""
    return statements_of(rows, False)
