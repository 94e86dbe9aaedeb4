"""The ends of machines."""

from deedstand.running import Runner


def ends_of(machine, text, at):
    """Return ascending the ends of the machine at a place."""
    return tuple(Runner(machine, text).ends(at))


def longest(machine, text, at):
    """Return the greatest end of the machine at a place, or None."""
    return Runner(machine, text).last_end(at)
