"""The lasting state of a desk: its sheets, its registers, its moment."""

from deedstand.errors import DeskError, NoSuch, Taken
from deedstand.limits import MOST_REGISTERS, MOST_ROWS, MOST_SHEETS, MOST_SIGNS, check_many
from deedstand.sheets import Sheet


def tell_sheet(lasting, name):
    """Make a sheet."""
    if name in [sheet.name for sheet in lasting.sheets]:
        raise Taken(name)
    check_many(len(lasting.sheets) + 1, MOST_SHEETS, "sheets")
    lasting.sheets.append(Sheet(name))


def tell_edit(lasting, number, parent, rounds):
    """Do a deed."""
    lasting.numbered(number).do_at(parent, rounds)


def tell_turn(lasting, number, parent, deeds):
    """Turn deeds at a node."""
    sheet = lasting.numbered(number)
    place = sheet.place
    sheet.go(parent)
    try:
        sheet.turn(deeds)
    except DeskError:
        sheet.go(place)
        raise


def tell_go(lasting, number, node):
    """Go to a node."""
    lasting.numbered(number).go(node)


def tell_mark(lasting, number, name, chunk, index, side):
    """Set a mark."""
    lasting.numbered(number).set_mark(name, (chunk, index, side))


def tell_unmark(lasting, number, name):
    """Take a mark away."""
    lasting.numbered(number).drop_mark(name)


def tell_keep(lasting, name, rows):
    """Give a register its rows, or take it away."""
    check_many(len(rows), MOST_ROWS, "register")
    check_many(sum([len(row) for row in rows]), MOST_SIGNS, "register")
    if rows == ():
        if name in lasting.registers:
            del lasting.registers[name]
        return
    if name not in lasting.registers:
        check_many(len(lasting.registers) + 1, MOST_REGISTERS, "registers")
    lasting.registers[name] = rows


def tell_tie(lasting, number, file, seen, hoped):
    """Tie a sheet to a file."""
    sheet = lasting.numbered(number)
    sheet.tie = (file, seen, hoped)


TELLERS = {
    "sheet": tell_sheet,
    "edit": tell_edit,
    "turn": tell_turn,
    "go": tell_go,
    "mark": tell_mark,
    "unmark": tell_unmark,
    "keep": tell_keep,
    "tie": tell_tie,
}


class Lasting:
    """A lasting state; records change it."""

    def __init__(self):
        self.sheets = []
        self.registers = {}
        self.moment = 0

    def numbered(self, number):
        """Return the sheet with a number, counted from 1."""
        if not 1 <= number <= len(self.sheets):
            raise NoSuch("sheet", number)
        return self.sheets[number - 1]

    def tell(self, record):
        """Do a record."""
        teller = TELLERS[record[0]]
        parts = record[1:]
        teller(self, *parts)
        self.moment += 1

    def trial(self):
        """Return another state that is the same and changes by itself."""
        other = Lasting()
        other.sheets = [sheet.trial() for sheet in self.sheets]
        other.registers = dict(self.registers)
        other.moment = self.moment
        return other

    def plain(self):
        """Return what the state is, as one tuple."""
        registers = tuple(sorted([(name, self.registers[name]) for name in self.registers]))
        return (self.moment, tuple([sheet.plain() for sheet in self.sheets]), registers)
