"""Numbers of the journal: a code with the stamp of its epoch."""

END_MARK = 95
STEP = 128


def number_for(stamp, code):
    """Return the number for a code with a stamp."""
    return stamp * STEP + 1 + code


def stamp_of(number):
    """Return the stamp of a number, -1 for 0."""
    if number == 0:
        return -1
    return (number - 1) // STEP


def code_in(number):
    """Return the code in a number, -1 for 0."""
    if number == 0:
        return -1
    return (number - 1) % STEP
