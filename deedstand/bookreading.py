"""Books: modes with rules that colour rows."""

from deedstand.errors import BadBook, BadLine, BadPattern, TooMuch
from deedstand.limits import MOST_COLOUR, MOST_MODES, MOST_RULES
from deedstand.linewords import words_of
from deedstand.machines import machine_of
from deedstand.patternreading import read_pattern

# A book is a tuple of pairs (name of a mode, rules); a rule is a triple (colour, mode behind, machine).

MODE = ("name", "mode")
RULE = ("name", "rule")


def words_or_none(row):
    """Return the words of a row, None if it has none."""
    try:
        return words_of(row)
    except BadLine:
        return None


def mode_told(row):
    """Return the name that a row tells of a mode, None if it tells none."""
    words = words_or_none(row)
    if words is None or len(words) != 2 or words[0] != MODE or words[1][0] != "name":
        return None
    return words[1][1]


def rule_told(row):
    """Return the triple (colour, name, pattern) that a row tells of a rule, None if it tells none."""
    words = words_or_none(row)
    if words is None or [word[0] for word in words] != ["name", "number", "name", "text"] or words[0] != RULE:
        return None
    colour, name, pattern = [word[1] for word in words[1:]]
    if not 1 <= colour <= MOST_COLOUR:
        return None
    return (colour, name, pattern)


def machine_or_none(pattern):
    """Return the machine of a pattern, None if it is refused."""
    try:
        return machine_of(read_pattern(pattern))
    except (BadPattern, TooMuch):
        return None


def rule_of(row, names):
    """Return the rule of a row, None if it tells none; names are those of the modes."""
    told = rule_told(row)
    if told is None or told[1] not in names:
        return None
    machine = machine_or_none(told[2])
    if machine is None:
        return None
    return (told[0], told[1], machine)


def read_book(rows):
    """Return the book of the rows."""
    if len(rows) == 0:
        raise BadBook(0)
    names = [mode_told(row) for row in rows]
    modes = []
    for line, row in enumerate(rows):
        if names[line] is not None:
            if names[line] in names[:line] or len(modes) == MOST_MODES:
                raise BadBook(line)
            modes.append((names[line], []))
        else:
            rule = rule_of(row, names)
            if rule is None or len(modes) == 0 or len(modes[-1][1]) == MOST_RULES:
                raise BadBook(line)
            modes[-1][1].append(rule)
    return tuple([(name, tuple(rules)) for name, rules in modes])


def first_mode(book):
    """Return the name of the first mode."""
    return book[0][0]


def mode_names(book):
    """Return all names of modes, in sequence."""
    return tuple([name for name, _ in book])


def rules_of(book, mode):
    """Return the rules of a mode."""
    for name, rules in book:
        if name == mode:
            return rules
    return ()
