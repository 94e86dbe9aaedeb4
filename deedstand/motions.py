"""Where words lead from a place of a text."""

from deedstand.alphabet import kind_of
from deedstand.errors import BadPlace
from deedstand.textlines import place_of, row_bounds, spot_of

WORDS = ("left", "right", "up", "down", "home", "end", "start", "finish", "word", "wordback")


def class_of(sign):
    """Return the kind of a sign; letters and digits are one class."""
    kind = kind_of(sign)
    if kind == "digit":
        return "letter"
    return kind


def left_of(text, place):
    """Return the place ahead."""
    return max(place - 1, 0)


def right_of(text, place):
    """Return the place behind."""
    return min(place + 1, len(text))


def above(text, place):
    """Return the same column of the line above."""
    line, column = spot_of(text, place)
    if line == 0:
        return place
    return place_of(text, line - 1, column)


def below(text, place):
    """Return the same column of the line below."""
    line, column = spot_of(text, place)
    if line == text.count("\n"):
        return place
    return place_of(text, line + 1, column)


def home_of(text, place):
    """Return the first place of the line."""
    return row_bounds(text, spot_of(text, place)[0])[0]


def end_of(text, place):
    """Return the end of the line's row."""
    return row_bounds(text, spot_of(text, place)[0])[1]


def start_of(text, place):
    """Return the first place."""
    return 0


def finish_of(text, place):
    """Return the last place."""
    return len(text)


def past_class(text, place, kind):
    """Return the place behind all signs of a class that follow."""
    while place < len(text) and class_of(text[place]) == kind:
        place += 1
    return place


def back_past_class(text, place, kind):
    """Return the place ahead of all signs of a class that stand ahead."""
    while place > 0 and class_of(text[place - 1]) == kind:
        place -= 1
    return place


def word_on(text, place):
    """Return the place where the next word begins."""
    if place == len(text):
        return place
    if text[place] == "\n":
        return place + 1
    return past_class(text, past_class(text, place, class_of(text[place])), "blank")


def word_back(text, place):
    """Return the place where the word ahead begins."""
    if place == 0:
        return 0
    if text[place - 1] == "\n":
        return place - 1
    place = back_past_class(text, place, "blank")
    if place == 0 or text[place - 1] == "\n":
        return place
    return back_past_class(text, place, class_of(text[place - 1]))


MOTIONS = {
    "left": left_of,
    "right": right_of,
    "up": above,
    "down": below,
    "home": home_of,
    "end": end_of,
    "start": start_of,
    "finish": finish_of,
    "word": word_on,
    "wordback": word_back,
}


def moved(text, place, word):
    """Return the place to which a word leads from a place."""
    if place > len(text):
        raise BadPlace(place)
    motion = MOTIONS[word]
    return motion(text, place)
