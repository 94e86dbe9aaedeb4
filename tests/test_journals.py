"""[81] journals: what is told, what is sure, every step on the disk, Full; opening again; [10], [82]."""

import unittest

from deedstand.disks import Disk
from deedstand.errors import BadSplice, DeskError, Full, Halt, NoSuch, Taken
from deedstand.journals import Journal
from deedstand.lastingstate import Lasting
from deedstand.openings import meaning_of, opened
from tests.diskways import LoggedDisk, PlainJournal, blocks_of, snapshot_text
from tests.recordways import drawn_record, plain_kept
from tests.test_lasting import AB_RECORDS
from tests.test_openings import written_disk
from tests.test_sheets import refused
from tests.ways import rng_for


def seen_of(journal):
    """All that can be seen of a journal and its disk."""
    disk = journal.disk
    return (journal.told(), journal.sure(), journal.records(), journal.epoch, journal.lasting.plain(), disk.steps,
            disk.pending(), blocks_of(disk), blocks_of(disk.crash(())))


class TestOpening(unittest.TestCase):

    def test_new_disk(self):
        disk = LoggedDisk(width=8, slot=2, journal=2, files=1)
        journal = Journal(disk)
        self.assertIs(journal.disk, disk)
        self.assertIs(type(journal.lasting), Lasting)
        self.assertEqual((journal.epoch, journal.lasting.plain(), journal.told(), journal.sure(), journal.records()),
                         (1, (0, (), ()), 0, 0, ()))
        numbers = [1 * 128 + 1 + code for code in (77, 79, 77, 69, 78, 84, 1, 16, 0, 95)]
        self.assertEqual(disk.log, [("write", 4, tuple(numbers[:8])), ("write", 5, tuple(numbers[8:]) + (0,) * 6),
                                    ("flush",), ("write", 0, (1,) + (0,) * 7), ("flush",)])
        self.assertEqual((disk.steps, disk.pending()), (5, 0))

    def test_by_hand(self):
        disk = written_disk(4, 'moment 9\nsheet s\nkeep r "a"\n', 'edit 1 0 0 0 "ab"\nkeep r\ngo 1 0\nkeep q "')
        disk.flush()
        journal = Journal(disk=disk)
        self.assertEqual((journal.epoch, journal.told(), journal.sure()), (5, 12, 12))
        kept = (("sheet", "s"), ("edit", 1, 0, (((0, 0, "ab"),),)), ("go", 1, 0))
        self.assertEqual(journal.records(), kept)
        self.assertEqual(journal.lasting.plain(), opened(kept, moment=9).plain())
        self.assertEqual(meaning_of(disk), (12, kept, ()))
        self.assertEqual(disk.read(0), (5,) + (0,) * 15)

    def test_again(self):
        rng = rng_for("opened again")
        disk = LoggedDisk(width=9, slot=100, journal=3, files=1)
        journal, records = Journal(disk), ()
        for turn in range(12):
            for _ in range(rng.randint(0, 4)):
                records += tell_drawn(rng, journal)
            plain = journal.lasting.plain()
            self.assertEqual(plain, opened(records).plain())
            kind = turn % 3
            if kind == 0:
                journal.rest()
            elif kind == 1:
                # All that waits lands in sequence.
                disk = disk.crash(tuple((which, 9) for which in range(disk.pending())))
            epoch, disk = journal.epoch, disk if kind == 2 else disk.crash(())
            if kind == 2:
                disk.flush()
            journal = Journal(disk)
            self.assertEqual((journal.epoch, journal.lasting.plain(), journal.records()),
                             (epoch + 1, plain, plain_kept(records)))

    def test_what_waits(self):
        # Something waits: the snapshot begins with a flush.
        disk = LoggedDisk(width=8, slot=2, journal=2, files=1)
        disk.write(6, (0,) * 8)
        disk.taken_log()
        Journal(disk)
        self.assertEqual((disk.log[0], len(disk.log)), (("flush",), 6))


def tell_drawn(rng, journal):
    """Tell a drawn record; return a tuple of it, or of nothing if it is refused."""
    record = drawn_record(rng, journal.lasting)
    try:
        journal.tell(record)
    except DeskError:
        return ()
    return (record,)


class TestTelling(unittest.TestCase):

    def same(self, journal, plain):
        self.assertEqual((journal.told(), journal.sure(), journal.epoch, journal.records()),
                         (plain.told, plain.sure, plain.epoch, plain_kept(plain.records)))
        self.assertEqual((blocks_of(journal.disk), journal.disk.pending()), (plain.blocks, plain.waits))
        self.assertEqual(journal.lasting.plain(), opened(plain.records).plain())
        moment, kept, told = meaning_of(journal.disk)
        self.assertEqual(opened(kept + told, moment=moment - len(kept)).plain(), journal.lasting.plain())

    def test_drawn(self):
        rng = rng_for("journals")
        snapshots = fulls = 0
        for _ in range(40):
            disk = LoggedDisk(width=rng.randint(8, 12), slot=rng.choice((6, 10, 40)),
                              journal=rng.choice((1, 2, 5, 9)), files=1)
            plain = PlainJournal(disk)
            journal = Journal(disk)
            self.assertEqual(disk.taken_log(), plain.log)
            for _ in range(30):
                kind = rng.random()
                if kind < 0.1:
                    self.assertIsNone(journal.rest())
                    self.assertEqual(disk.taken_log(), plain.flush())
                elif kind < 0.15:
                    # By whomever.
                    disk.flush()
                    self.assertEqual(disk.taken_log(), plain.flush())
                else:
                    fulls += self.tell(rng, disk, journal, plain)
                self.same(journal, plain)
            snapshots += plain.epoch
        self.assertTrue(snapshots > 100 and fulls > 20, (snapshots, fulls))

    def tell(self, rng, disk, journal, plain):
        """One telling against the plain journal; return whether there is no room."""
        record, before = drawn_record(rng, journal.lasting), seen_of(journal)
        try:
            opened(plain.records + (record,))
        except DeskError as error:
            with self.assertRaises(type(error)):
                journal.tell(record)
            self.assertEqual(seen_of(journal), before)
            return False
        self.assertEqual(journal.fits((record,)), plain.fits((record,)))
        if not plain.fits((record,)):
            refused(self, Full, {}, journal.tell, record)
            self.assertEqual(seen_of(journal), before)
            return True
        self.assertIsNone(journal.tell(record))
        self.assertEqual(disk.taken_log(), plain.tell(record))
        return False

    def test_fits(self):
        rng = rng_for("fits")
        answers = {True: 0, False: 0}
        for _ in range(60):
            journal = Journal(Disk(width=8, slot=rng.randint(6, 20), journal=30, files=1))
            lasting, records = journal.lasting.trial(), ()
            for _ in range(rng.randint(0, 12)):
                record = drawn_record(rng, lasting)
                try:
                    lasting.tell(record)
                except DeskError:
                    continue
                records += (record,)
            before = seen_of(journal)
            want = all(len(snapshot_text(k, records[:k])) + 1 <= journal.disk.slot * 8 for k in range(1,
                                                                                                      len(records) + 1))
            got = journal.fits(records=records)
            self.assertIs(got, want)
            answers[got] += 1
            self.assertEqual(seen_of(journal), before)
        self.assertTrue(min(answers.values()) > 10, answers)
        self.assertIs(journal.fits(()), True)

    def test_refused(self):
        journal = Journal(Disk(slot=20))
        for record in AB_RECORDS:
            journal.tell(record=record)
        before = seen_of(journal)
        for error, record in ((Taken, ("sheet", "s")), (NoSuch, ("go", 1, 9)), (NoSuch, ("go", 2, 0)),
                              (BadSplice, ("edit", 1, 0, (((1, 0, "x"),),)))):
            with self.assertRaises(error):
                journal.tell(record)
            self.assertEqual(seen_of(journal), before)

    def test_errors_ahead_of_full(self):
        journal = Journal(Disk(width=8, slot=2, journal=9, files=1))
        refused(self, NoSuch, {"what": "sheet", "name": 1}, journal.tell, ("go", 1, 9))
        refused(self, Full, {}, journal.tell, ("keep", "r", ("x" * 100,)))


class TestBounds(unittest.TestCase):

    def test_full_met_exactly(self):
        # "moment 1", 'keep r "x..x"', two feeds and the end mark.
        for slot in (3, 4, 9):
            room = 8 * slot - len("moment 1\n") - len('keep r ""\n') - 1
            for many, is_full in ((room, False), (room + 1, True)):
                journal = Journal(Disk(width=8, slot=slot, journal=20, files=1))
                record = ("keep", "r", ("x" * many,))
                self.assertIs(journal.fits((record,)), not is_full)
                if is_full:
                    refused(self, Full, {}, journal.tell, record)
                    self.assertEqual(journal.told(), 0)
                else:
                    journal.tell(record)
                    self.assertEqual(Journal(journal.disk).records(), (record,))

    def test_longer_moment(self):
        # The moment gets a digit more at 10, which is one sign too many.
        room = 8 * 4 - len("moment 9\n") - len('keep r ""\n') - 1
        journal = Journal(Disk(width=8, slot=4, journal=200, files=1))
        record = ("keep", "r", ("x" * room,))
        for _ in range(9):
            journal.tell(record)
        self.assertIs(journal.fits((record,)), False)
        refused(self, Full, {}, journal.tell, record)
        # What makes the rows shorter fits; the intermediate states count, too.
        self.assertIs(journal.fits((("keep", "r", ()), ("keep", "q", ("x",)))), True)
        self.assertIs(journal.fits((("keep", "q", ("x",)), ("keep", "r", ()))), False)
        journal.tell(("keep", "r", ()))
        self.assertEqual((journal.told(), journal.records()), (10, ()))

    def test_journal_met_exactly(self):
        # Rows go into the journal exactly as long as they fit.
        row = len('keep r ""\n')
        for more in (0, 1):
            disk = LoggedDisk(width=8, slot=20, journal=5, files=1)
            journal = Journal(disk)
            journal.tell(("keep", "r", ("x" * (20 - row),)))
            self.assertEqual((journal.epoch, disk.pending(), journal.sure()), (1, 3, 0))
            disk.taken_log()
            journal.tell(("keep", "r", ("y" * (20 - row + more),)))
            self.assertEqual((journal.epoch, disk.pending(), journal.sure()), ((1, 6, 0), (2, 0, 2))[more])
            self.assertEqual(disk.log[0][0], ("write", "flush")[more])
            if not more:
                disk.taken_log()
                journal.tell(("keep", "r", ()))
                self.assertEqual((journal.epoch, journal.sure(), disk.log[0]), (2, 3, ("flush",)))

    def test_row_longer_than_the_journal(self):
        disk = LoggedDisk(width=8, slot=40, journal=1, files=1)
        journal = Journal(disk)
        disk.taken_log()
        journal.tell(("keep", "r", ("x" * 90,)))
        self.assertEqual((journal.epoch, journal.sure(), disk.log[-1], disk.pending()), (2, 1, ("flush",), 0))
        # Nothing waits, so the snapshot does not begin with a flush.
        self.assertEqual(disk.log[0][0], "write")

    def test_sure(self):
        disk = Disk(width=64, slot=40, journal=40, files=1)
        journal = Journal(disk)
        for k in range(1, 4):
            journal.tell(("keep", "r", (str(k),)))
            self.assertEqual((journal.told(), journal.sure()), (k, 0))
        disk.flush()
        self.assertEqual((journal.told(), journal.sure()), (3, 3))
        journal.tell(("keep", "r", ("4",)))
        self.assertEqual((journal.told(), journal.sure()), (4, 3))
        journal.tell(("keep", "r", ("5",)))
        journal.rest()
        self.assertEqual((journal.told(), journal.sure()), (5, 5))
        journal.tell(("keep", "r", ("6",)))
        disk.write(1, (0,) * 64)
        disk.flush()
        journal.tell(("keep", "r", ("7",)))
        self.assertEqual((journal.told(), journal.sure()), (7, 6))

    def test_halt(self):
        for steps in range(5):
            disk = Disk(width=8, slot=2, journal=2, files=1)
            disk.limit(steps)
            with self.assertRaises(Halt):
                Journal(disk)
            self.assertEqual(disk.steps, steps)
        disk.limit(None)
        journal = Journal(Disk())
        journal.disk.limit(0)
        with self.assertRaises(Halt):
            journal.tell(("sheet", "a"))
        # Told counts a record when tell has ended.
        self.assertEqual((journal.told(), journal.lasting.sheets), (0, []))

    def test_longest(self):
        journal = Journal(Disk(width=64, slot=400, journal=400, files=1))
        rows = ("x" * 10,) * 200
        for k in range(7):
            journal.tell(("keep", "k" + str(k), rows))
        self.assertIs(journal.fits((("keep", "k7", rows),)), True)
        self.assertEqual(Journal(journal.disk).lasting.plain(), journal.lasting.plain())


if __name__ == "__main__":
    unittest.main()
