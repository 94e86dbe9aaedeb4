"""Splices and rounds, and what they do to texts and places."""

from deedstand.alphabet import is_text
from deedstand.errors import BadSplice
from deedstand.kinds import is_number


def is_splice(thing):
    """Return whether thing, any value, is a splice."""
    if not isinstance(thing, tuple) or len(thing) != 3:
        return False
    at, cut, text = thing
    return is_number(at) and is_number(cut) and is_text(text) and (cut > 0 or text != "")


def follows(before, splice):
    """Return whether splice can stand directly behind the splice before in a round."""
    return splice[0] > before[0] and splice[0] >= before[0] + before[1]


def check_round(size, splices):
    """Raise BadSplice if a tuple of any values is no round on a text of size signs."""
    if len(splices) == 0:
        raise BadSplice(-1)
    for k, splice in enumerate(splices):
        if not is_splice(splice) or splice[0] + splice[1] > size:
            raise BadSplice(k)
        if k > 0 and not follows(splices[k - 1], splice):
            raise BadSplice(k)


def spliced(text, splices):
    """Return the text behind the round."""
    check_round(len(text), splices)
    parts = []
    done = 0
    for at, cut, put in splices:
        parts.append(text[done:at])
        parts.append(put)
        done = at + cut
    parts.append(text[done:])
    return "".join(parts)


def back_round(text, splices):
    """Return the round that leads back from the text behind a round on text."""
    back = []
    shift = 0
    end = -1
    for at, cut, put in splices:
        lost = text[at:at + cut]
        if at == end:
            begin, many, ahead = back.pop()
            back.append((begin, many + len(put), ahead + lost))
        else:
            back.append((at + shift, len(put), lost))
        shift += len(put) - cut
        end = at + cut
    return tuple(back)


def moved_by(place, side, splice):
    """Return where one splice moves an anchor with this place and side."""
    at, cut, put = splice
    if place < at:
        return place
    if place > at + cut:
        return place - cut + len(put)
    return at + side * len(put)


def moved_place(place, side, splices):
    """Return the place to which an anchor with this place and side comes by a round."""
    for splice in reversed(splices):
        place = moved_by(place, side, splice)
    return place


def led_past(first, second):
    """Return second led past first and first led past second, or None if they are not apart."""
    at, cut, put = first
    then_at, then_cut, then_put = second
    if then_at + then_cut < at:
        return (second, (at + len(then_put) - then_cut, cut, put))
    if then_at > at + len(put):
        return ((then_at - len(put) + cut, then_cut, then_put), first)
    return None
