"""What lies on a disk, and the state that it means."""

from deedstand.alphabet import sign_of
from deedstand.disks import journal_first, slot_first
from deedstand.lastingstate import Lasting
from deedstand.linewords import words_of
from deedstand.recordreading import record_of
from deedstand.regions import read_region
from deedstand.stamps import END_MARK


def opened(records, *, moment=0):
    """Return a lasting state that was told the records."""
    lasting = Lasting()
    for record in records:
        lasting.tell(record)
    lasting.moment = moment + len(records)
    return lasting


def whole_rows(codes):
    """Return the rows, those with a feed, that codes tell up to an end mark, which is no sign."""
    if END_MARK in codes:
        codes = codes[:codes.index(END_MARK)]
    return "".join([sign_of(code) for code in codes]).split("\n")[:-1]


def slot_rows(disk, epoch):
    """Return the rows in the slot of an epoch; none without an end mark."""
    codes = read_region(disk, slot_first(disk, epoch), disk.slot, epoch)
    if END_MARK not in codes:
        return []
    return whole_rows(codes)


def journal_rows(disk, epoch):
    """Return the rows of an epoch in the journal's blocks."""
    return whole_rows(read_region(disk, journal_first(disk), disk.journal, epoch))


def meaning_of(disk):
    """Return the moment of the slot, the records of its rows, and those of the journal's."""
    epoch = disk.read(0)[0]
    moment = 0
    told = slot_rows(disk, epoch)
    if len(told) > 0:
        moment = words_of(told[0])[1][1]
    kept = tuple([record_of(row) for row in told[1:]])
    return (moment, kept, tuple([record_of(row) for row in journal_rows(disk, epoch)]))
