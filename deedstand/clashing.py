"""Untold pairs in the row that a weave shows."""

from deedstand.hopping import told_ahead
from deedstand.treereading import pieces_of


def clash_in(weave):
    """Return the first two shown neighbours of a weave that are untold, None if there are none."""
    last = None
    for chunk, start, many, _, on in pieces_of(weave.tree):
        if on:
            # The signs of a weave are a keeper, so the later one is never told ahead of the earlier one.
            if last is not None and not told_ahead(weave.births, last, (chunk, start)):
                return (last, (chunk, start))
            last = (chunk, start + many - 1)
    return None
