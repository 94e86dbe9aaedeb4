"""The kinds of numbers."""


def is_number(thing):
    """Return whether thing, any value, is an integer of at least 0."""
    return isinstance(thing, int) and not isinstance(thing, bool) and thing >= 0


def is_below(thing, many):
    """Return whether thing, any value, is a number below many."""
    return is_number(thing) and thing < many
