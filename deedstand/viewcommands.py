"""Commands about sheets and views."""

from deedstand.bookreading import read_book
from deedstand.errors import NoSuch


def make_sheet(scene, name):
    """Make a sheet, and go on it."""
    scene.desk.tell((("sheet", name),))
    return scene.go_on(len(scene.desk.sheets()))


def go_on_sheet(scene, name):
    """Go on a sheet."""
    names = scene.desk.sheets()
    if name not in names:
        raise NoSuch("sheet", name)
    return scene.go_on(names.index(name) + 1)


def resize(scene, width, height):
    """Set the size of the view."""
    scene.view().resize(width, height)


def set_top(scene, line):
    """Set the top of the view."""
    scene.view().set_top(scene.sheet(), line)


def fold(scene, first, last):
    """Fold lines."""
    scene.view().fold(scene.sheet(), first, last)


def unfold(scene):
    """Unfold the lines at the head of the first pick."""
    sheet = scene.sheet()
    head = scene.picks()[0][1]
    scene.view().unfold(sheet, sheet.spot(head)[0])


def wrap(scene, wrapping):
    """Wrap rows at signs or at words."""
    scene.view().wrap(wrapping == "word")


def tint(scene, name):
    """Colour rows by the book in a register."""
    scene.view().dye(read_book(scene.rows_in(name)))


def tint_nothing(scene):
    """Colour no rows."""
    scene.view().dye(None)


def tell_text(scene):
    """Return the text."""
    return scene.sheet().text()


def tell_picks(scene):
    """Return the settled picks."""
    return scene.picks()


VIEW_COMMANDS = {
    "sheet": make_sheet,
    "on": go_on_sheet,
    "size": resize,
    "top": set_top,
    "fold": fold,
    "unfold": unfold,
    "wrap": wrap,
    "tint": tint,
    "notint": tint_nothing,
    "text": tell_text,
    "picks": tell_picks,
}
