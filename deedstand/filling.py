"""What a hit is exchanged by."""

from deedstand.errors import BadText

ESCAPES = {"&": "&", "\\": "\\", "n": "\n"}


def filled(new, hit):
    """Return new with each & exchanged by the text hit, and its escapes by what they mean."""
    parts = []
    at = 0
    while at < len(new):
        sign = new[at]
        if sign == "&":
            parts.append(hit)
        elif sign != "\\":
            parts.append(sign)
        else:
            if at + 1 == len(new) or new[at + 1] not in ESCAPES:
                raise BadText(at)
            at += 1
            parts.append(ESCAPES[new[at]])
        at += 1
    return "".join(parts)
