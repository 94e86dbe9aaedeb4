"""[90] files and the disk as hands say them: load, save, saveas, reload, unlink, rest, pace."""

import unittest

from deedstand.desks import Desk
from deedstand.errors import Elder, Full, NoSuch, Taken, TooMuch
from deedstand.shelves import Shelf
from tests.deskways import done, new_desk, new_hand, refuse, state_of_hand, text_of
from tests.diskways import LoggedDisk


def shelf_of(hand):
    return Shelf(hand.desk.disk)


def tie_of(hand):
    return hand.scene.sheet().tie


class TestSave(unittest.TestCase):

    def test_saveas_and_save(self):
        hand = new_hand("sheet a", 'put "abc"')
        refuse(self, hand, "save", NoSuch, what="file", name="a")
        refuse(self, hand, "reload", NoSuch, what="file", name="a")
        # The answer is twice the moment of the tie record.
        self.assertEqual(hand.say("saveas f"), 6)
        self.assertEqual((tie_of(hand), shelf_of(hand).load("f"), hand.desk.told(), hand.desk.sure()),
                         (("f", 0, 6), ("abc", 6), 3, 3))
        self.assertEqual(done(hand, 'put "d"', "save", "files"), (2, 10, ("f",)))
        self.assertEqual((tie_of(hand), shelf_of(hand).load("f")), (("f", 6, 10), ("abcd", 10)))
        # For a tie with F saveas is save.
        self.assertEqual(done(hand, "saveas f"), (12,))
        self.assertEqual((tie_of(hand), shelf_of(hand).load("f")), (("f", 10, 12), ("abcd", 12)))
        self.assertEqual(done(hand, "saveas g", "files"), (14, ("f", "g")))
        self.assertEqual((tie_of(hand), shelf_of(hand).load("f"), shelf_of(hand).load("g")),
                         (("g", 0, 14), ("abcd", 12), ("abcd", 14)))
        refuse(self, hand, "saveas f", Taken, name="f")

    def test_elder(self):
        hand = new_hand("sheet a", 'put "abc"', "saveas f", 'put "d"')
        shelf_of(hand).save("f", "others", 3)
        refuse(self, hand, "save", Elder, name="f")
        refuse(self, hand, "saveas f", Elder, name="f")
        self.assertEqual(done(hand, "reload", "text", "save"), (3, "others", 14))
        # A file that is gone may be written anew.
        shelf_of(hand).save("f", "others", 5)
        shelf_of(hand).drop("f")
        self.assertEqual(done(hand, "save"), (16,))
        self.assertEqual(tie_of(hand), ("f", 0, 16))
        # By another sheet of the desk.
        done(hand, "sheet b", 'put "x"')
        refuse(self, hand, "saveas f", Taken, name="f")
        done(hand, "unlink f", "saveas f", "on a")
        refuse(self, hand, "save", Elder, name="f")

    def test_seen_and_hoped(self):
        # The file has the version that was seen, or the one that was hoped for: both are let.
        for version, is_let in ((4, True), (8, True), (0, True), (6, False), (9, False), (2, False)):
            hand = new_hand("sheet a", 'put "x"')
            hand.desk.tell((("tie", 1, "f", 4, 8),))
            if version:
                shelf_of(hand).save("f", "y", version)
            if is_let:
                self.assertEqual(hand.say("save"), 8)
                self.assertEqual((tie_of(hand), shelf_of(hand).load("f")), (("f", version, 8), ("x", 8)))
            else:
                refuse(self, hand, "save", Elder, name="f")

    def test_steps(self):
        disk = LoggedDisk(width=64, slot=40, journal=10, files=4)
        hand = Desk(disk).hand("ann")
        done(hand, "sheet a", 'put "abc"')
        disk.taken_log()
        hand.say("saveas f")
        log = disk.taken_log()
        self.assertEqual([step[0] for step in log], ["flush", "write", "write", "flush", "write", "flush"])
        # The journal rests; the tie is told; the chain is written; the directory.
        self.assertEqual([step[1] for step in log if step[0] == "write"], [82, 92, 1])
        # With a pace the journal rests behind the tie, too.
        done(hand, "pace 1")
        disk.taken_log()
        hand.say("save")
        self.assertEqual([step[0] for step in disk.log], ["flush", "write", "flush", "write", "flush", "write",
                                                          "flush"])

    def test_full(self):
        # Three blocks of 8 numbers for files.
        hand = new_hand("sheet a", 'put "' + "x" * 19 + '"', width=8, slot=100, files=3)
        refuse(self, hand, "saveas f", Full)
        done(hand, "back")
        self.assertEqual(done(hand, "saveas f"), (8,))
        refuse(self, hand, "save", Full)
        refuse(self, hand, "saveas f", Full)
        refuse(self, hand, "saveas g", Full)
        # Elder and Taken come first.
        shelf_of(hand).drop("f")
        shelf_of(hand).save("f", "x" * 18, 3)
        refuse(self, hand, "save", Elder, name="f")
        done(hand, "sheet b")
        refuse(self, hand, "saveas f", Taken, name="f")
        # The shelf has room, but the snapshot with the tie does not fit.
        hand = new_hand("sheet a", 'put "' + "x" * 22 + '"', width=8, slot=7, files=30)
        refuse(self, hand, "saveas f", Full)
        self.assertEqual(done(hand, "files", "rest"), ((), 2))

    def test_directory(self):
        hand = new_hand("sheet a", width=8, slot=100, files=30)
        for k in range(8):
            hand.say(f"saveas f{k}")
        refuse(self, hand, "saveas g", Full)
        self.assertEqual(done(hand, "save", "unlink f2"), (20, None))
        hand.say("saveas g")

    def test_many_saves(self):
        hand = new_hand("sheet a", 'put "x"', "saveas f")
        for k in range(40):
            self.assertEqual(hand.say("save"), 2 * hand.desk.told())
        self.assertEqual(Desk(hand.desk.crash(())).plain(), hand.desk.plain())


class TestLoad(unittest.TestCase):

    def test_load(self):
        hand = new_desk().hand("ann")
        shelf_of(hand).save("f", "one\ntwo", 3)
        shelf_of(hand).save("g", "", 5)
        self.assertEqual(done(hand, "load f", "text", "place", "picks"), (1, "one\ntwo", 1, ((0, 0),)))
        self.assertEqual((tie_of(hand), hand.desk.told(), hand.sheet_name()), (("f", 3, 3), 3, "f"))
        self.assertEqual(done(hand, "load g", "text", "nodes"), (2, "", 1))
        self.assertEqual((tie_of(hand), hand.desk.told()), (("g", 5, 5), 5))
        self.assertEqual(done(hand, 'put "x"', "save"), (1, 14))
        self.assertEqual(shelf_of(hand).load("g"), ("x", 14))

    def test_errors(self):
        hand = new_hand("sheet f", files=400)
        refuse(self, hand, "load f", NoSuch, what="file", name="f")
        shelf_of(hand).save("f", "x" * 4001, 3)
        refuse(self, hand, "load f", Taken, name="f")
        shelf_of(hand).save("g", "x" * 4001, 3)
        refuse(self, hand, "load g", TooMuch, what="text")
        # Also a text of more signs than a sheet may put at all.
        shelf_of(hand).drop("g")
        shelf_of(hand).save("g", "x" * 20001, 3)
        refuse(self, hand, "load g", TooMuch, what="text")
        done(hand, *[f"sheet s{k}" for k in range(7)])
        refuse(self, hand, "load g", TooMuch, what="sheets")
        refuse(self, hand, "load f", Taken, name="f")
        refuse(self, hand, "load h", NoSuch, what="file", name="h")

    def test_longest(self):
        hand = new_desk(files=400, slot=400).hand("ann")
        shelf_of(hand).save("f", "\n" * 4000, 3)
        self.assertEqual(done(hand, "load f"), (1,))
        self.assertEqual(text_of(hand), "\n" * 4000)

    def test_full(self):
        hand = new_desk(width=8, slot=6, journal=9, files=30).hand("ann")
        shelf_of(hand).save("f", "x" * 50, 3)
        refuse(self, hand, "load f", Full)
        self.assertIsNone(hand.sheet_name())


class TestReload(unittest.TestCase):

    def test_reload(self):
        hand = new_hand("sheet a", 'put "one two"', "saveas f", "at 0 5")
        told = hand.desk.told()
        # The same text: no edit, but the tie is told.
        self.assertEqual((hand.say("reload"), hand.desk.told(), tie_of(hand)), (None, told + 1, ("f", 6, 6)))
        shelf_of(hand).save("f", "one!! two", 7)
        self.assertEqual(done(hand, "reload", "text", "picks"), (2, "one!! two", ((7, 7),)))
        self.assertEqual((tie_of(hand), hand.desk.told()), (("f", 7, 7), told + 3))
        self.assertEqual(hand.scene.sheet().nodes[2], ("edit", 1, (((3, 0, "!!"),),)))
        self.assertEqual(done(hand, "save"), (14,))

    def test_errors(self):
        hand = new_hand("sheet a", 'put "one"', "saveas f", files=400, slot=400)
        done(hand, "unlink f")
        refuse(self, hand, "reload", NoSuch, what="file", name="f")
        shelf_of(hand).save("f", "x" * 4001, 7)
        refuse(self, hand, "reload", TooMuch, what="text")
        shelf_of(hand).save("f", "x" * 21000, 7)
        refuse(self, hand, "reload", TooMuch, what="text")
        shelf_of(hand).save("f", "x" * 4000, 9)
        done(hand, *["reload", "go 1"] * 4)
        refuse(self, hand, "reload", TooMuch, what="born")
        shelf_of(hand).save("f", "one", 9)
        done(hand, "reload", *['put "y"', "undo"] * 294)
        shelf_of(hand).save("f", "two", 9)
        refuse(self, hand, "reload", TooMuch, what="nodes")
        shelf_of(hand).save("f", "one", 11)
        self.assertEqual(done(hand, "reload"), (None,))


class TestDisk(unittest.TestCase):

    def test_unlink(self):
        hand = new_hand("sheet a", "saveas f", "saveas g")
        told = hand.desk.told()
        self.assertEqual(done(hand, "files", "unlink f", "files"), (("f", "g"), None, ("g",)))
        refuse(self, hand, "unlink f", NoSuch, what="file", name="f")
        self.assertEqual(hand.desk.told(), told)

    def test_rest_and_sure(self):
        hand = new_hand("sheet a", 'put "x"')
        self.assertEqual(done(hand, "moment", "sure", "rest", "moment", "sure"), (2, 0, 2, 2, 2))
        self.assertEqual(done(hand, "at 0 0", 'put "y"', "moment", "sure"), (None, 2, 3, 2))
        steps = hand.desk.disk.steps
        self.assertEqual((hand.say("rest"), hand.say("rest"), hand.desk.disk.steps - steps), (3, 3, 2))
        # Whoever flushes.
        done(hand, 'put "z"', "saveas f")
        self.assertEqual(done(hand, "moment", "sure"), (5, 5))

    def test_pace(self):
        hand = new_hand("sheet a", *['put "x"'] * 4)
        refuse(self, hand, "pace 1001", TooMuch, what="pace")
        self.assertEqual(done(hand, "sure", "pace 6", "sure", "pace 5", "sure"), (0, None, 0, None, 5))
        self.assertEqual(done(hand, 'put "x"', "sure", "pace 1000", 'put "x"', "sure", "pace 1", "sure", 'put "x"',
                              "sure"),
                         (5, 5, None, 6, 5, None, 7, 7, 8))
        self.assertEqual(done(hand, "pace 0", *['put "x"'] * 9, "sure")[-1], 8)
        self.assertEqual(hand.desk.pace, 0)

    def test_refusals_keep_all(self):
        hand = new_hand("sheet a", 'put "abc"', "saveas f", width=16, slot=14, files=1)
        before = state_of_hand(hand)
        for line, word in (("save", "Full"), ("saveas g", "Full"), ("saveas f", "Full"), ("load g", "NoSuch"),
                           ("unlink g", "NoSuch"), ("pace 2000", "TooMuch")):
            self.assertEqual(hand.run((line,)), ((), (0, word)))
            self.assertEqual(state_of_hand(hand), before)


if __name__ == "__main__":
    unittest.main()
