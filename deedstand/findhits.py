"""Hits: where a machine has ends in a text."""

from deedstand.running import Runner


def hit_among(runner, begins):
    """Return the hit at the first of some places that has an end, or None."""
    for begin in begins:
        end = runner.last_end(begin)
        if end is not None:
            return (begin, end)
    return None


def hit_from(runner, at):
    """Return the first hit from a place on, or None."""
    return hit_among(runner, list(range(at, len(runner.letters) + 1)))


def hit_behind(runner, behind):
    """Return the first hit from a place on that is not empty at this place, or None."""
    hit = hit_from(runner, behind)
    if hit == (behind, behind):
        return hit_from(runner, behind + 1)
    return hit


def first_hit(machine, text, at):
    """Return the first hit from a place on, or None."""
    return hit_from(Runner(machine, text), at)


def last_hit(machine, text, before):
    """Return the last hit that begins below a place, or None."""
    begins = list(range(before))
    return hit_among(Runner(machine, text), begins[::-1])


def next_hit(machine, text, behind):
    """Return the first hit from a place on that is not empty at this place, or None."""
    return hit_behind(Runner(machine, text), behind)


def all_hits(machine, text):
    """Return the first hit, then each next one behind the end of the one before."""
    runner = Runner(machine, text)
    hits = []
    hit = hit_from(runner, 0)
    while hit is not None:
        hits.append(hit)
        hit = hit_behind(runner, hit[1])
    return tuple(hits)
