"""Desks: the sheets and registers on a disk, and the hands that edit them."""

from deedstand.alphabet import is_name
from deedstand.errors import Full, NoSuch
from deedstand.hands import Hand
from deedstand.journals import Journal
from deedstand.limits import MOST_HANDS, check_many


class Desk:
    """A disk that is opened."""

    def __init__(self, disk):
        self.disk = disk
        self.journal = Journal(disk)
        self.pace = 0
        self.known_hands = {}

    def told(self):
        """Return the moment of the state."""
        return self.journal.told()

    def sure(self):
        """Return what told was at the last flush of the disk."""
        return self.journal.sure()

    def plain(self):
        """Return what the lasting state is, as one tuple."""
        return self.journal.lasting.plain()

    def sheets(self):
        """Return the names of the sheets, in sequence."""
        return tuple([sheet.name for sheet in self.journal.lasting.sheets])

    def text(self, name):
        """Return the text of a sheet."""
        return self.sheet(name).text()

    def sheet(self, name):
        """Return a sheet."""
        for sheet in self.journal.lasting.sheets:
            if sheet.name == name:
                return sheet
        raise NoSuch("sheet", name)

    def hand(self, name):
        """Return the hand of a name, made if it is new."""
        if not is_name(name):
            raise NoSuch("hand", name)
        if name not in self.known_hands:
            check_many(len(self.known_hands) + 1, MOST_HANDS, "hands")
            self.known_hands[name] = Hand(self, name)
        return self.known_hands[name]

    def check_records(self, records):
        """Raise the first error of some records, told one after another."""
        trial = self.journal.lasting.trial()
        for record in records:
            trial.tell(record)
        if not self.journal.fits(records):
            raise Full()

    def tell(self, records):
        """Tell records, all or none."""
        self.check_records(records)
        for record in records:
            self.journal.tell(record)
            self.look_at_pace()

    def look_at_pace(self):
        """Let the journal rest if too much is told that is not sure."""
        if self.pace >= 1 and self.told() - self.sure() >= self.pace:
            self.journal.rest()

    def crash(self, landed):
        """Return a new disk with what has landed, and what landed tells of the waiting writes."""
        return self.disk.crash(landed)
