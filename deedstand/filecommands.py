"""Commands about files and the disk."""

from deedstand.errors import Elder, Full, NoSuch, Taken
from deedstand.leastsplice import least_splice
from deedstand.limits import MOST_PACE, MOST_TEXT, check_many
from deedstand.shelves import Shelf


def shelf_of(scene):
    """Return the shelf of the desk's disk."""
    return Shelf(scene.desk.disk)


def load(scene, name):
    """Make a sheet with the text of a file, and go on it."""
    desk = scene.desk
    text, version = shelf_of(scene).load(name)
    number = len(desk.sheets()) + 1
    records = [("sheet", name)]
    # That the sheet can be made is asked ahead of how long the text is.
    desk.journal.lasting.trial().tell(records[0])
    check_many(len(text), MOST_TEXT, "text")
    if text != "":
        records.append(("edit", number, 0, (((0, 0, text),),)))
    desk.tell((*records, ("tie", number, name, version, version)))
    return scene.go_on(number)


def save_as(scene, file, seen):
    """Save the text in a file, of which a version is seen, and return the new version."""
    desk = scene.desk
    text = scene.sheet().text()
    shelf = shelf_of(scene)
    if not shelf.room(file, text):
        raise Full()
    version = 2 * (desk.told() + 1)
    records = (("tie", scene.number, file, seen, version),)
    # All that can refuse is asked ahead of the first step on the disk.
    desk.check_records(records)
    desk.journal.rest()
    desk.tell(records)
    shelf.save(file, text, version)
    return version


def save(scene):
    """Save the text in the file to which the sheet is tied."""
    sheet = scene.sheet()
    if sheet.tie is None:
        raise NoSuch("file", sheet.name)
    file, seen, hoped = sheet.tie
    version = shelf_of(scene).version_of(file)
    if version not in (0, seen, hoped):
        raise Elder(file)
    return save_as(scene, file, version)


def save_in(scene, file):
    """Save the text in a file."""
    tie = scene.sheet().tie
    if tie is not None and tie[0] == file:
        return save(scene)
    if file in shelf_of(scene).names():
        raise Taken(file)
    return save_as(scene, file, 0)


def reload(scene):
    """Bring the text to that of the file to which the sheet is tied; return the node, or None if it is the same."""
    sheet = scene.sheet()
    if sheet.tie is None:
        raise NoSuch("file", sheet.name)
    file = sheet.tie[0]
    text, version = shelf_of(scene).load(file)
    check_many(len(text), MOST_TEXT, "text")
    splice = least_splice(sheet.text(), text)
    records = [("tie", scene.number, file, version, version)]
    if splice is None:
        scene.desk.tell(tuple(records))
        return None
    scene.desk.tell((("edit", scene.number, sheet.place, ((splice,),)), *records))
    return scene.sheet().place


def files(scene):
    """Return the names of the files."""
    return shelf_of(scene).names()


def unlink(scene, name):
    """Take a file away."""
    shelf_of(scene).drop(name)


def rest(scene):
    """Let the journal rest, and return the moment."""
    scene.desk.journal.rest()
    return scene.desk.told()


def set_pace(scene, pace):
    """Set the pace, and look at it."""
    check_many(pace, MOST_PACE, "pace")
    desk = scene.desk
    desk.pace = pace
    desk.look_at_pace()


def moment(scene):
    """Return the moment."""
    return scene.desk.told()


def sure(scene):
    """Return what is sure."""
    return scene.desk.sure()


FILE_COMMANDS = {
    "load": load,
    "save": save,
    "saveas": save_in,
    "reload": reload,
    "files": files,
    "unlink": unlink,
    "rest": rest,
    "pace": set_pace,
    "moment": moment,
    "sure": sure,
}
