"""[78] openings and what lies on a disk, [79] kept rows; G11, [82]."""

import itertools
import unittest

from deedstand.alphabet import code_of
from deedstand.disks import Disk, journal_first, slot_first
from deedstand.errors import NoSuch, Taken, TooMuch
from deedstand.keptrows import kept_rows
from deedstand.lastingstate import Lasting
from deedstand.openings import meaning_of, opened
from deedstand.recordtexts import row_of_record
from deedstand.regions import put_region
from deedstand.stamps import END_MARK
from tests.recordways import drawn_records, plain_kept
from tests.test_lasting import AB_RECORDS
from tests.test_sheets import refused
from tests.ways import rng_for


def codes_of(text):
    return tuple(code_of(sign) for sign in text)


def written_disk(epoch, slot_text, journal_text, *, mark=True, **sizes):
    """A disk whose slot and journal have texts, as if written in this epoch."""
    disk = Disk(**{"slot": 12, "journal": 12, **sizes})
    disk.write(0, (epoch,) + (0,) * (disk.width - 1))
    put_region(disk, slot_first(disk, epoch), codes_of(slot_text) + (END_MARK,) * mark, 0, epoch)
    put_region(disk, journal_first(disk), codes_of(journal_text), 0, epoch)
    return disk


class TestOpened(unittest.TestCase):

    def test_by_hand(self):
        lasting = opened(())
        self.assertIs(type(lasting), Lasting)
        self.assertEqual((lasting.plain(), opened((), moment=5).plain()), ((0, (), ()), (5, (), ())))
        lasting = opened(records=AB_RECORDS, moment=3)
        self.assertEqual((lasting.moment, lasting.sheets[0].text()), (7, "aX"))
        self.assertEqual(opened(AB_RECORDS).moment, 4)
        refused(self, NoSuch, {"what": "sheet", "name": 1}, opened, AB_RECORDS[1:])
        refused(self, Taken, {"name": "s"}, opened, AB_RECORDS + AB_RECORDS)
        refused(self, TooMuch, {"what": "register"}, opened, (("keep", "r", ("",) * 201),))
        with self.assertRaises(TypeError):
            opened((), 3)

    def test_same_as_told(self):
        rng = rng_for("opened")
        for _ in range(20):
            records, lasting = drawn_records(rng, 20), Lasting()
            for record in records:
                lasting.tell(record)
            self.assertEqual(opened(records).plain(), lasting.plain())


class TestMeaning(unittest.TestCase):

    def check(self, disk, *want):
        steps = disk.steps
        got = meaning_of(disk)
        self.assertEqual(got, want)
        self.assertEqual([type(part) for part in got], [int, tuple, tuple])
        self.assertIs(type(got), tuple)
        self.assertEqual(disk.steps, steps)

    def test_new_disk(self):
        self.check(Disk(), 0, (), ())

    def test_by_hand(self):
        slot = "moment 7\nsheet a\ngo 1 0\n"
        kept, told = (("sheet", "a"), ("go", 1, 0)), (("keep", "r", ("x",)),)
        for epoch in (0, 1, 2, 3, 999999):
            self.check(written_disk(epoch, slot, 'keep r "x"\n'), 7, kept, told)
            self.check(written_disk(epoch, slot, ""), 7, kept, ())
            self.check(written_disk(epoch, "moment 0\n", ""), 0, (), ())
            # A row without its feed does not count.
            self.check(written_disk(epoch, slot, 'keep r "x"\nkeep'), 7, kept, told)
            self.check(written_disk(epoch, slot, 'keep r "x"'), 7, kept, ())
        self.assertEqual(meaning_of(disk=written_disk(1, slot, "")), (7, kept, ()))

    def test_no_end_mark(self):
        slot = "moment 7\nsheet a\n"
        self.check(written_disk(2, slot, "sheet b\n", mark=False), 0, (), (("sheet", "b"),))
        self.check(written_disk(2, "", "sheet b\n", mark=False), 0, (), (("sheet", "b"),))
        # The slot is full to its last number, with its mark and without it.
        disk = written_disk(2, slot + "sheet b234567\n", "", width=16, slot=2)
        self.check(disk, 7, (("sheet", "a"), ("sheet", "b234567")), ())
        disk = written_disk(2, slot + "sheet b2345678\n", "", width=16, slot=2, mark=False)
        self.check(disk, 0, (), ())

    def test_elder_stamps(self):
        slot, journal = "moment 7\nsheet a\n", "sheet b\nsheet c\n"
        kept, told = (("sheet", "a"),), (("sheet", "b"), ("sheet", "c"))
        for epoch, stamp in ((4, 2), (4, 3), (4, 5), (2, 0)):
            disk = written_disk(epoch, slot, journal)
            # What stands behind the end mark, and what the journal has of other epochs, means nothing.
            put_region(disk, slot_first(disk, epoch), codes_of("sheet z\n") + (END_MARK,), len(slot) + 1, stamp)
            put_region(disk, journal_first(disk), codes_of("sheet y\n"), len(journal), stamp)
            self.check(disk, 7, kept, told)
            put_region(disk, slot_first(disk, epoch + 1), codes_of("moment 9\n") + (END_MARK,), 0, epoch + 1)
            self.check(disk, 7, kept, told)
            put_region(disk, slot_first(disk, epoch), codes_of("sheet z\n"), len(slot) + 1, epoch)
            self.check(disk, 7, kept, told)
            # A stamp of another epoch amid the journal ends it.
            put_region(disk, journal_first(disk), codes_of("e"), 11, stamp)
            self.check(disk, 7, kept, told[:1])
            put_region(disk, journal_first(disk), codes_of("\n"), 7, stamp)
            self.check(disk, 7, kept, ())
            # And one in the slot ends it ahead of its mark.
            put_region(disk, slot_first(disk, epoch), codes_of("h"), 10, stamp)
            self.check(disk, 0, (), ())

    def test_other_slot(self):
        disk = written_disk(1, "moment 3\nsheet a\n", "")
        put_region(disk, slot_first(disk, 2), codes_of("moment 4\n") + (END_MARK,), 0, 2)
        self.check(disk, 3, (("sheet", "a"),), ())
        disk.write(0, (2,) + (0,) * 15)
        self.check(disk, 4, (), ())
        disk.write(0, (3,) + (0,) * 15)
        self.check(disk, 0, (), ())


class TestKept(unittest.TestCase):

    def test_each_kind(self):
        first, edit = ("sheet", "s"), ("edit", 1, 0, (((0, 0, "ab"),),))
        for records, kept in (
                ((), ()),
                ((first, edit, ("turn", 1, 1, (1,)), ("sheet", "t")), None),
                ((first, ("go", 1, 0)), (first,)),
                ((first, edit, ("go", 1, 0)), None),
                ((first, edit, ("go", 1, 1)), (first, edit)),
                ((first, edit, ("go", 1, 0), ("go", 1, 1)), (first, edit)),
                ((first, edit, ("go", 1, 0), ("go", 1, 1), ("go", 1, 0)), (first, edit, ("go", 1, 0))),
                ((first, edit, ("go", 1, 0), edit), (first, edit, edit)),
                ((first, edit, ("go", 1, 0), ("turn", 1, 1, (1,))), (first, edit, ("turn", 1, 1, (1,)))),
                ((first, edit, ("go", 1, 0), ("sheet", "t"), ("go", 2, 0), ("edit", 2, 0, (((0, 0, "x"),),))),
                 (first, edit, ("go", 1, 0), ("sheet", "t"), ("edit", 2, 0, (((0, 0, "x"),),)))),
                ((first, ("mark", 1, "m", 0, 0, 0), ("mark", 1, "m", 0, 1, 0)), (first, ("mark", 1, "m", 0, 1, 0))),
                ((first, ("mark", 1, "m", 0, 0, 0), ("mark", 1, "n", 0, 1, 0)), None),
                ((first, ("mark", 1, "m", 0, 0, 0), ("unmark", 1, "m")), (first,)),
                ((first, ("mark", 1, "m", 0, 0, 0), ("unmark", 1, "m"), ("mark", 1, "m", 0, 0, 0)),
                 (first, ("mark", 1, "m", 0, 0, 0))),
                ((("keep", "r", ("a",)), ("keep", "q", ("b",)), ("keep", "r", ("c",))),
                 (("keep", "q", ("b",)), ("keep", "r", ("c",)))),
                ((("keep", "r", ("a",)), ("keep", "r", ())), ()),
                ((("keep", "r", ()), ("keep", "r", ("a",))), (("keep", "r", ("a",)),)),
                ((("keep", "r", ("",)),), None),
                ((first, ("tie", 1, "f", 0, 1), ("tie", 1, "g", 2, 3)), (first, ("tie", 1, "g", 2, 3))),
                ((first, ("sheet", "t"), ("tie", 1, "f", 0, 1), ("tie", 2, "f", 0, 1)), None)):
            kept = records if kept is None else kept
            self.assertEqual(kept_rows(records=records), kept)
            self.assertEqual(plain_kept(records), kept)
            self.assertIs(type(kept_rows(records)), tuple)

    def test_drawn(self):
        rng = rng_for("kept rows")
        for _ in range(60):
            records = drawn_records(rng, rng.randint(0, 30))
            kept = kept_rows(records)
            self.assertEqual(kept, plain_kept(records))
            self.assertEqual(kept_rows(kept), kept)
            self.assertEqual(opened(kept).plain()[1:], opened(records).plain()[1:])
            for k in range(len(records)):
                before = kept_rows(records[:k]) + (records[k],)
                self.assertEqual(kept_rows(before), kept_rows(records[:k + 1]))

    def test_no_row_less(self):
        # No part of the records, in sequence, with fewer rows or fewer signs makes the same.
        rng = rng_for("no row less")
        for _ in range(25):
            records = drawn_records(rng, 9)
            want, kept = opened(records).plain()[1:], kept_rows(records)
            signs = sum(len(row_of_record(record)) for record in kept)
            for many in range(len(records) + 1):
                for part in itertools.combinations(records, many):
                    if many < len(kept) or sum(len(row_of_record(record)) for record in part) < signs:
                        try:
                            self.assertNotEqual(opened(part).plain()[1:], want)
                        except ValueError:
                            pass

    def test_longest(self):
        records = (("sheet", "s"),) + tuple(("edit", 1, k, (((0, 0, "x"),),)) for k in range(299))
        records += (("go", 1, 5),) * 500 + tuple(("keep", "r", (str(k),)) for k in range(500))
        self.assertEqual(kept_rows(records), records[:301] + records[-1:])


if __name__ == "__main__":
    unittest.main()
