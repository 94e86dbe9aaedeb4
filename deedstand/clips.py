"""What is copied from settled picks, and pasted at them."""

from deedstand.entering import put_round, put_texts
from deedstand.errors import NoSuch
from deedstand.settling import low_high
from deedstand.textlines import joined


def clipped(text, picks):
    """Return the selected text of each pick."""
    spans = [low_high(pick) for pick in picks]
    if all([low == high for low, high in spans]):
        raise NoSuch("pick", 0)
    return tuple([text[low:high] for low, high in spans])


def paste_round(picks, rows):
    """Return the round that puts the rows at the picks, and the places behind them."""
    if len(rows) == len(picks) and len(rows) > 1:
        return put_texts(picks, rows)
    return put_round(picks, joined(rows))
