"""Rounds of what is entered, or cut, at settled picks."""

from deedstand.settling import joined_stretches, low_high


def put_texts(picks, texts):
    """Return the round that puts a text at each pick, and the places behind them."""
    splices = []
    carets = []
    shift = 0
    for pick, text in zip(picks, texts):
        low, high = low_high(pick)
        if high > low or text != "":
            splices.append((low, high - low, text))
        shift += len(text) - (high - low)
        carets.append(high + shift)
    return (tuple(splices), tuple(sorted(set(carets))))


def put_round(picks, text):
    """Return the round that puts one text at each pick, and the places behind them."""
    return put_texts(picks, [text] * len(picks))


def cut_ahead(stretches, place):
    """Return the number of signs of the stretches ahead of a place."""
    return sum([min(high, place) - low for low, high in stretches if low < place])


def cut_round(picks, stretches):
    """Return the round that cuts the stretches, and the places of the picks behind it."""
    joined = joined_stretches([(low, high) for low, high in stretches if low < high])
    splices = tuple([(low, high - low, "") for low, high in joined])
    lows = [min(tail, head) for tail, head in picks]
    return (splices, tuple(sorted(set([low - cut_ahead(joined, low) for low in lows]))))


def back_cuts(picks, text, many):
    """Return the round that cuts the selections and, ahead of each caret, at most many signs."""
    stretches = []
    for low, high in [low_high(pick) for pick in picks]:
        begin = max(low - many, 0) if low == high else low
        stretches.append((begin, high))
    return cut_round(picks, stretches)


def ahead_cuts(picks, text, many):
    """Return the round that cuts the selections and, behind each caret, at most many signs."""
    stretches = []
    for low, high in [low_high(pick) for pick in picks]:
        end = min(high + many, len(text)) if low == high else high
        stretches.append((low, end))
    return cut_round(picks, stretches)
