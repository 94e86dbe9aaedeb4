"""Keepers: rows of all signs that keep to what is told."""

from deedstand.birthrows import END, HEAD, chunk_size, is_sign, letter_of
from deedstand.stands import has_deed


def choice_for(choices, chunk):
    """Return the choice of a chunk."""
    if chunk > len(choices):
        return 0
    return choices[chunk - 1]


def laid_out(births, choices):
    """Return the keeper that the choices lay out."""
    row = [HEAD, END]
    for chunk in range(1, len(births)):
        left, right = births[chunk][1:3]
        begin = row.index(left) + 1
        gap = row.index(right, begin) - begin
        at = begin + choice_for(choices, chunk) % (gap + 1)
        row[at:at] = [(chunk, index) for index in range(chunk_size(births, chunk))]
    return tuple(row)


def own_keeper(births):
    """Return the own keeper."""
    return laid_out(births, ())


def cut_away(cuts, stand):
    """Return a dict that has all signs that standing deeds cut as keys."""
    away = {}
    for deed in cuts:
        if has_deed(stand, deed):
            for chunk, start, many in cuts[deed]:
                for index in range(start, start + many):
                    away[(chunk, index)] = True
    return away


def shown_by(births, cuts, keeper, stand):
    """Return those signs of keeper that are shown in the stand."""
    away = cut_away(cuts, stand)
    put = [sign for sign in keeper if sign[0] > 0 and has_deed(stand, births[sign[0]][0])]
    return tuple([sign for sign in put if sign not in away])


def letters_of(births, signs):
    """Return the letters of the signs as a text."""
    return "".join([letter_of(births, sign) for sign in signs])


def places_in(births, row):
    """Return a dict from the signs of a row to their indexes, None if it has not each sign once."""
    places = {}
    for at, sign in enumerate(row):
        if not is_sign(births, sign) or sign in places:
            return None
        places[sign] = at
    if len(places) < sum([chunk_size(births, chunk) for chunk in range(len(births))]):
        return None
    return places


def is_kept(births, places, chunk):
    """Return whether a chunk has its signs in sequence, between its left and its right."""
    signs = [(chunk, index) for index in range(chunk_size(births, chunk))]
    if chunk > 0:
        signs = [births[chunk][1], *signs, births[chunk][2]]
    return all([places[x] < places[y] for x, y in zip(signs, signs[1:])])


def is_keeper(births, thing):
    """Return whether thing, any value, is a keeper of the births."""
    if not isinstance(thing, tuple):
        return False
    places = places_in(births, thing)
    if places is None:
        return False
    # What is told follows from these neighbours alone, being the least relation.
    return all([is_kept(births, places, chunk) for chunk in range(len(births))])
