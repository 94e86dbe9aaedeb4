"""The alphabet, texts and names."""

from deedstand.errors import BadText, TooMuch

DIGITS = "0123456789"
SMALL_LETTERS = "abcdefghijklmnopqrstuvwxyz"
LETTERS = "ABCDEFGHIJKLMNOPQRSTUVWXYZ_abcdefghijklmnopqrstuvwxyz"
ALPHABET = (
    "\n !\"#$&'()*+,-./0123456789:;<=>?@ABCDEFGHIJKLMNOPQRSTUVWXYZ"
    "[\\]^_`abcdefghijklmnopqrstuvwxyz{|}~"
)
LONGEST_NAME = 12


def first_strange(text):
    """Return the index of the first sign of a string that is not of the alphabet, or None."""
    for at, sign in enumerate(text):
        if sign not in ALPHABET:
            return at
    return None


def is_text(thing):
    """Return whether thing, any value, is a text."""
    return isinstance(thing, str) and first_strange(thing) is None


def check_text(thing, most):
    """Raise BadText if thing is no text, TooMuch if it has more than most signs."""
    if not isinstance(thing, str):
        raise BadText(-1)
    at = first_strange(thing)
    if at is not None:
        raise BadText(at)
    if len(thing) > most:
        raise TooMuch("text")


def code_of(sign):
    """Return the code of a sign."""
    return ALPHABET.index(sign)


def sign_of(code):
    """Return the sign of a code."""
    return ALPHABET[code]


def kind_of(sign):
    """Return "feed", "blank", "digit", "letter" or "other"."""
    if sign == "\n":
        return "feed"
    if sign == " ":
        return "blank"
    if sign in DIGITS:
        return "digit"
    if sign in LETTERS:
        return "letter"
    return "other"


def is_name(thing):
    """Return whether thing, any value, is a name."""
    if not isinstance(thing, str) or not 1 <= len(thing) <= LONGEST_NAME:
        return False
    if thing[0] not in SMALL_LETTERS:
        return False
    return all([sign in SMALL_LETTERS or sign in DIGITS for sign in thing])
