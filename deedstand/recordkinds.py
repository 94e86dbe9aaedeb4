"""Records: changes of the lasting state."""

from deedstand.alphabet import is_name, is_text
from deedstand.kinds import is_below
from deedstand.limits import NUMBERS_BELOW


def is_named(thing):
    """Return whether thing is a name."""
    return is_name(thing)


def is_count(thing):
    """Return whether thing is a number that a record may have."""
    return is_below(thing, NUMBERS_BELOW)


def is_sheet_number(thing):
    """Return whether thing is such a number that is at least 1."""
    return is_count(thing) and thing >= 1


def is_side(thing):
    """Return whether thing is 0 or 1."""
    return is_below(thing, 2)


def is_change(thing):
    """Return whether thing is a triple (number, number, text)."""
    if not isinstance(thing, tuple) or len(thing) != 3:
        return False
    at, cut, text = thing
    return is_count(at) and is_count(cut) and is_text(text)


def is_tuple_of(thing, least, check):
    """Return whether thing is a tuple of at least so many values that all pass a check."""
    if not isinstance(thing, tuple) or len(thing) < least:
        return False
    return all([check(part) for part in thing])


def is_change_row(thing):
    """Return whether thing is a nonempty tuple of such triples."""
    return is_tuple_of(thing, 1, is_change)


def is_rounds(thing):
    """Return whether thing is a nonempty tuple of such tuples."""
    return is_tuple_of(thing, 1, is_change_row)


def is_deeds(thing):
    """Return whether thing is a nonempty tuple of numbers."""
    return is_tuple_of(thing, 1, is_count)


def is_rows(thing):
    """Return whether thing is a tuple of texts."""
    return is_tuple_of(thing, 0, is_text)


FORMS = {
    "sheet": (is_named,),
    "edit": (is_sheet_number, is_count, is_rounds),
    "turn": (is_sheet_number, is_count, is_deeds),
    "go": (is_sheet_number, is_count),
    "mark": (is_sheet_number, is_named, is_count, is_count, is_side),
    "unmark": (is_sheet_number, is_named),
    "keep": (is_named, is_rows),
    "tie": (is_sheet_number, is_named, is_count, is_count),
}


def is_record(thing):
    """Return whether thing, any value, is a record."""
    if not isinstance(thing, tuple) or len(thing) == 0:
        return False
    if not isinstance(thing[0], str) or thing[0] not in FORMS:
        return False
    checks = FORMS[thing[0]]
    if len(thing) != len(checks) + 1:
        return False
    return all([check(part) for check, part in zip(checks, thing[1:])])
