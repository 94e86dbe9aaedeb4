"""The words of a line."""

from deedstand.alphabet import DIGITS, SMALL_LETTERS
from deedstand.errors import BadLine
from deedstand.quoting import name_at, number_at, sign_at, unquote


def word_at(line, at):
    """Return the pair of the word that begins at an index, and the index behind it."""
    sign = sign_at(line, at)
    if sign == " " or sign == "\n":
        raise BadLine(at)
    if sign in SMALL_LETTERS:
        name, end = name_at(line, at)
        return (("name", name), end)
    if sign in DIGITS:
        number, end = number_at(line, at)
        return (("number", number), end)
    if sign == "\"":
        text, end = unquote(line, at)
        return (("text", text), end)
    return (("sign", sign), at + 1)


def placed_words(line):
    """Return a list of pairs: where a word of a line begins, and the word; one space parts them."""
    if line == "":
        return []
    word, at = word_at(line, 0)
    words = [(0, word)]
    while at < len(line):
        if line[at] != " ":
            raise BadLine(at)
        begin = at + 1
        word, at = word_at(line, begin)
        words.append((begin, word))
    return words


def words_of(line):
    """Return the tuple of the words of a line."""
    return tuple([word for _, word in placed_words(line)])
