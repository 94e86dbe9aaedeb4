"""[84] desks: what is told, the pace, sheets, hands, opening again on a crashed disk."""

import unittest

from deedstand.desks import Desk
from deedstand.disks import Disk
from deedstand.errors import Full, NoSuch, Taken, TooMuch
from deedstand.hands import Hand
from deedstand.journals import Journal
from deedstand.openings import opened
from deedstand.sheets import Sheet
from tests.deskways import new_desk, state_of_desk
from tests.recordways import drawn_records
from tests.test_lasting import AB_RECORDS
from tests.test_sheets import refused
from tests.ways import rng_for


def small_desk(**sizes):
    return new_desk(**{"width": 32, "slot": 100, "journal": 20, **sizes})


class TestDesk(unittest.TestCase):

    def test_fields(self):
        disk = Disk()
        desk = Desk(disk=disk)
        self.assertIs(desk.disk, disk)
        self.assertIs(type(desk.journal), Journal)
        self.assertIs(desk.journal.disk, disk)
        self.assertEqual((desk.pace, desk.told(), desk.sure(), desk.plain(), desk.sheets()), (0, 0, 0, (0, (), ()), ()))

    def test_sheets(self):
        desk = small_desk()
        self.assertIsNone(desk.tell(records=AB_RECORDS + (("sheet", "b"),)))
        self.assertEqual((desk.sheets(), desk.text(name="s"), desk.text("b")), (("s", "b"), "aX", ""))
        self.assertIs(type(desk.sheets()), tuple)
        sheet = desk.sheet(name="s")
        self.assertIs(type(sheet), Sheet)
        self.assertEqual((sheet.name, sheet.place, sheet.standing()), ("s", 3, (1, 2, 3)))
        for name in ("c", "", "S", 1, True, None, ("s",)):
            refused(self, NoSuch, {"what": "sheet", "name": name}, desk.text, name)
            refused(self, NoSuch, {"what": "sheet", "name": name}, desk.sheet, name)
        # Asked anew after each record.
        desk.tell((("go", 1, 1),))
        self.assertEqual((desk.text("s"), desk.sheet("s").place), ("ab", 1))

    def test_hands(self):
        desk = small_desk()
        hand = desk.hand(name="ann")
        self.assertIs(type(hand), Hand)
        self.assertIs(hand.desk, desk)
        self.assertEqual((hand.name, hand.sheet_name()), ("ann", None))
        self.assertIs(desk.hand("ann"), hand)
        for name in ("", "Ann", "9a", "a234567890123", 1, True, None, ["ann"], ("ann",)):
            refused(self, NoSuch, {"what": "hand", "name": name}, desk.hand, name)
        names = ["ann"] + ["h" + str(k) for k in range(5)]
        hands = [desk.hand(name) for name in names]
        refused(self, TooMuch, {"what": "hands"}, desk.hand, "h5")
        refused(self, NoSuch, {"what": "hand", "name": "H"}, desk.hand, "H")
        self.assertEqual([desk.hand(name) for name in names], hands)
        self.assertEqual(state_of_desk(desk), state_of_desk(small_desk()))

    def test_tell_looks_first(self):
        desk = small_desk()
        desk.tell(AB_RECORDS)
        before = state_of_desk(desk)
        for error, records in ((NoSuch, (("go", 1, 0), ("go", 1, 9))), (Taken, (("sheet", "t"), ("sheet", "t"))),
                               (Full, (("keep", "r", ("x" * 2000,)),) + tuple(("keep", "q" + str(k),
                                                                               ("x" * 1990,)) for k in range(2))),
                               (TooMuch, (("sheet", "t"), ("keep", "r", ("",) * 201), ("go", 9, 9)))):
            with self.assertRaises(error):
                desk.tell(records)
            self.assertEqual(state_of_desk(desk), before)
        # Full comes last of all.
        with self.assertRaises(NoSuch):
            desk.tell((("keep", "r", ("x" * 2000,)), ("keep", "q", ("x" * 1990,)), ("go", 2, 0)))
        self.assertIsNone(desk.tell(()))
        self.assertEqual(state_of_desk(desk), before)
        # Each record is let in the state after those before it, and each state between has to fit, too.
        desk.tell((("sheet", "t"), ("edit", 2, 0, (((0, 0, "x"),),)), ("go", 2, 0)))
        self.assertEqual((desk.told(), desk.sheet("t").place), (7, 0))
        big = (("keep", "r", ("x" * 2000,)), ("keep", "q", ("x" * 1000,)))
        desk.tell(big)
        before = state_of_desk(desk)
        refused(self, Full, {}, desk.tell, (("keep", "p", ("x" * 300,)), ("keep", "r", ())))
        self.assertEqual(state_of_desk(desk), before)
        desk.tell((("keep", "r", ()), ("keep", "p", ("x" * 300,))))

    def test_drawn(self):
        rng = rng_for("desks")
        for _ in range(10):
            records = drawn_records(rng, 20)
            desk, at = small_desk(journal=3), 0
            while at < len(records):
                many = rng.randint(0, 4)
                desk.tell(records[at:at + many])
                at += many
                self.assertEqual(desk.plain(), opened(records[:at]).plain())
            again = Desk(desk.crash(tuple((which, 32) for which in range(desk.disk.pending()))))
            self.assertEqual(again.plain(), opened(records).plain())
            self.assertEqual(desk.plain(), opened(records).plain())


class TestPace(unittest.TestCase):

    def test_pace(self):
        for pace in (0, 1, 2, 3, 5):
            desk = small_desk(journal=40)
            desk.pace = pace
            for k in range(1, 12):
                steps, before = desk.disk.steps, desk.disk.pending()
                desk.tell((("keep", "r", (str(k),)),))
                less = desk.told() - desk.sure()
                self.assertEqual(less, k if pace == 0 else k % pace)
                # After each pace-th record the journal rests, and not before.
                is_rest = pace > 0 and k % pace == 0
                self.assertEqual(desk.disk.pending() == 0, is_rest)
                writes = desk.disk.steps - steps - is_rest
                self.assertTrue(writes == 1 or writes == 2)
                self.assertTrue(is_rest or desk.disk.pending() == before + writes)

    def test_amid_records(self):
        desk = small_desk(journal=40)
        desk.pace = 2
        desk.tell(tuple(("keep", "r", (str(k),)) for k in range(5)))
        self.assertEqual((desk.told(), desk.sure()), (5, 4))
        # Whoever flushes, it counts.
        desk.disk.flush()
        self.assertEqual(desk.sure(), 5)
        desk.tell((("keep", "r", ("x",)),))
        self.assertEqual((desk.told(), desk.sure()), (6, 5))

    def test_snapshots(self):
        # A snapshot makes all sure, so there is no rest behind it.
        desk = small_desk(width=8, slot=40, journal=1)
        desk.pace = 1
        steps = desk.disk.steps
        desk.tell((("keep", "r", ("x" * 20,)),))
        self.assertEqual((desk.sure(), desk.disk.pending()), (1, 0))
        self.assertEqual(desk.disk.steps - steps, 5 + 3)


class TestCrash(unittest.TestCase):

    def test_crash(self):
        desk = small_desk()
        desk.tell(AB_RECORDS)
        desk.journal.rest()
        desk.tell((("go", 1, 1),))
        before = state_of_desk(desk)
        # The row lies in two blocks.
        self.assertEqual(desk.disk.pending(), 2)
        for landed, place in (((), 3), (((0, 32), (1, 32)), 1), (((1, 2), (0, 32)), 1), (((0, 32),), 3),
                              (((1, 32),), 3),
                              (((0, 31), (1, 1)), 3), (((9, 32),), 3)):
            again = Desk(desk.crash(landed=landed))
            self.assertEqual((again.text("s"), again.sheet("s").place), (("aX", "ab")[place == 1], place))
            self.assertEqual(again.told(), 5 if place == 1 else 4)
            self.assertEqual(again.sure(), again.told())
            self.assertEqual(state_of_desk(desk), before)

    def test_hands_do_not_last(self):
        desk = small_desk()
        hand = desk.hand("ann")
        hand.run(("sheet a", 'put "abc"', "all", "rest"))
        again = Desk(desk.crash(()))
        other = again.hand("ann")
        self.assertEqual((other.sheet_name(), again.text("a"), other.say("on a"), other.picks()),
                         (None, "abc", 1, ((0, 0),)))


if __name__ == "__main__":
    unittest.main()
