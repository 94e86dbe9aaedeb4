"""Rows that are coloured by the rules of a book."""

from deedstand.bookreading import rules_of
from deedstand.running import Runner


def runners_of(book, mode, row):
    """Return a list of (colour, mode behind, runner) for the rules of a mode."""
    return [(colour, behind, Runner(machine, row)) for colour, behind, machine in rules_of(book, mode)]


def span_at(rules, mode, at):
    """Return (end, colour, mode behind) for the signs of a row from a place on, by rules with runners."""
    best = at
    span = (at + 1, 0, mode)
    for colour, behind, runner in rules:
        end = runner.last_end(at)
        if end is not None and end > best:
            best = end
            span = (end, colour, behind)
    return span


def joined_spans(spans):
    """Return the spans with neighbours of one colour joined."""
    found = []
    for many, colour in spans:
        if len(found) > 0 and found[-1][1] == colour:
            found[-1] = (found[-1][0] + many, colour)
        else:
            found.append((many, colour))
    return tuple(found)


def lexed(book, mode, row):
    """Return the spans of a row that begins in a mode, and the mode behind it."""
    rules = {}
    spans = []
    at = 0
    while at < len(row):
        if mode not in rules:
            rules[mode] = runners_of(book, mode, row)
        end, colour, mode = span_at(rules[mode], mode, at)
        spans.append((end - at, colour))
        at = end
    return (joined_spans(spans), mode)
