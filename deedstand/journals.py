"""The journal of a disk: records that are told, snapshots, and what is sure."""

from deedstand.alphabet import code_of
from deedstand.disks import journal_first, slot_first
from deedstand.errors import Full
from deedstand.keptrows import kept_of
from deedstand.openings import meaning_of, opened
from deedstand.recordtexts import row_of_record
from deedstand.regions import put_region
from deedstand.stamps import END_MARK


def row_codes(row):
    """Return a list of the codes of a row and its feed."""
    return [code_of(sign) for sign in row + "\n"]


def moment_row(moment):
    """Return the first row of a snapshot."""
    return f"moment {moment}"


def snapshot_codes(moment, kept):
    """Return a list of the codes of a snapshot, with its end mark."""
    codes = row_codes(moment_row(moment))
    for record in kept.records():
        codes.extend(row_codes(row_of_record(record)))
    return [*codes, END_MARK]


class Journal:
    """What was told on a disk since it was opened, and before."""

    def __init__(self, disk):
        moment, kept, told = meaning_of(disk)
        records = kept + told
        self.disk = disk
        self.epoch = disk.read(0)[0]
        # Each kept row came of a record, so there are no more of them than the moment tells.
        self.lasting = opened(records, moment=moment - len(kept))
        self.kept = kept_of(records)
        self.snap(self.lasting.moment, self.kept)
        # What was sure when the last record was told, and how often the disk had been flushed by then.
        self.sure_then = self.lasting.moment
        self.flushed_then = disk.flush_many

    def snap(self, moment, kept):
        """Make a snapshot of a state with a moment and its kept rows."""
        disk = self.disk
        if disk.pending() > 0:
            disk.flush()
        epoch = self.epoch + 1
        put_region(disk, slot_first(disk, epoch), snapshot_codes(moment, kept), 0, epoch)
        disk.flush()
        disk.write(0, (epoch,) + (0,) * (disk.width - 1))
        disk.flush()
        self.epoch = epoch
        # How many numbers of this epoch lie in the journal's blocks.
        self.filled = 0

    def has_room(self, moment, kept):
        """Return whether the snapshot of a state fits into a slot."""
        # Besides the rows there are the feed of the first one and the end mark.
        return len(moment_row(moment)) + 1 + kept.size + 1 <= self.disk.slot * self.disk.width

    def told(self):
        """Return the moment of the state."""
        return self.lasting.moment

    def sure(self):
        """Return what told was at the last flush of the disk."""
        if self.disk.flush_many > self.flushed_then:
            return self.told()
        return self.sure_then

    def records(self):
        """Return the kept records of the state."""
        return self.kept.records()

    def fits(self, records):
        """Return whether the snapshot after each of some records fits into a slot."""
        kept = self.kept.trial()
        for many, record in enumerate(records, start=1):
            kept.tell(record)
            if not self.has_room(self.told() + many, kept):
                return False
        return True

    def tell(self, record):
        """Tell a record."""
        after = self.lasting.trial()
        after.tell(record)
        kept = self.kept.trial()
        kept.tell(record)
        if not self.has_room(after.moment, kept):
            raise Full()
        sure = self.sure()
        codes = row_codes(row_of_record(record))
        if self.filled + len(codes) <= self.disk.journal * self.disk.width:
            put_region(self.disk, journal_first(self.disk), codes, self.filled, self.epoch)
            self.filled += len(codes)
        else:
            self.snap(after.moment, kept)
            sure = after.moment
        self.lasting = after
        self.kept = kept
        self.sure_then = sure
        self.flushed_then = self.disk.flush_many

    def rest(self):
        """Let all that was told land."""
        self.disk.flush()
