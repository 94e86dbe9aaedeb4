"""Commands that edit."""

from deedstand.clips import clipped, paste_round
from deedstand.entering import ahead_cuts, back_cuts, put_round, put_texts
from deedstand.hitrounds import sub_round
from deedstand.indenting import feed_front, indent_round
from deedstand.machines import machine_of
from deedstand.patternreading import read_pattern
from deedstand.plaintints import tints_from_nothing
from deedstand.settling import low_high
from deedstand.textlines import rows_of


def hold_carets(scene, places):
    """Let the picks become carets at some places."""
    scene.hold([(place, place) for place in places])


def edit_and_hold(scene, splices, carets):
    """Do the edit of a round; the picks become carets."""
    node = scene.edit(splices)
    hold_carets(scene, carets)
    return node


def put(scene, text):
    """Put a text at each pick."""
    splices, carets = put_round(scene.picks(), text)
    return edit_and_hold(scene, splices, carets)


def cut_back(scene, many):
    """Cut the selections, and the signs ahead of carets."""
    splices, carets = back_cuts(scene.picks(), scene.sheet().text(), many)
    return edit_and_hold(scene, splices, carets)


def cut_ahead(scene, many):
    """Cut the selections, and the signs behind carets."""
    splices, carets = ahead_cuts(scene.picks(), scene.sheet().text(), many)
    return edit_and_hold(scene, splices, carets)


def line_modes(sheet, book):
    """Return a list of the modes at the begin of the lines; None for each without a book."""
    if book is None:
        return [None] * sheet.row_many()
    return [mode for mode, _ in tints_from_nothing(book, rows_of(sheet.text()))]


def feed(scene):
    """Exchange each pick by a feed and the front of the new line."""
    sheet = scene.sheet()
    book = scene.view().book
    modes = line_modes(sheet, book)
    picks = scene.picks()
    texts = []
    for low, _ in [low_high(pick) for pick in picks]:
        line, column = sheet.spot(low)
        texts.append("\n" + " " * feed_front(book, modes[line], sheet.row(line)[:column]))
    splices, carets = put_texts(picks, texts)
    return edit_and_hold(scene, splices, carets)


def substitute(scene, pattern, new):
    """Exchange the hits of a pattern, in the selections if there are any."""
    machine = machine_of(read_pattern(pattern))
    stretches = tuple([low_high(pick) for pick in scene.picks() if pick[0] != pick[1]])
    if len(stretches) == 0:
        stretches = None
    return scene.edit(sub_round(machine, scene.sheet().text(), new, stretches))


def indent(scene, first, last):
    """Indent lines."""
    return scene.edit(indent_round(scene.view().book, scene.sheet().text(), first, last))


def paste(scene, name):
    """Put the rows of a register at the picks."""
    rows = scene.rows_in(name)
    splices, carets = paste_round(scene.picks(), rows)
    return edit_and_hold(scene, splices, carets)


def cut(scene, name):
    """Keep the selected texts in a register, and cut them."""
    sheet = scene.sheet()
    picks = scene.picks()
    rows = clipped(sheet.text(), picks)
    splices, carets = put_round(picks, "")
    # Some pick is a selection, so the round has a splice.
    scene.desk.tell((("keep", name, rows), ("edit", scene.number, sheet.place, (splices,))))
    hold_carets(scene, carets)
    return scene.sheet().place


EDIT_COMMANDS = {
    "put": put,
    "back": cut_back,
    "del": cut_ahead,
    "feed": feed,
    "sub": substitute,
    "indent": indent,
    "paste": paste,
    "cut": cut,
}
