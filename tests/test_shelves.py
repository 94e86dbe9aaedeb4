"""[80] chains of blocks, [81] shelves, G13 for the shelf."""

import itertools
import unittest

from deedstand.chainblocks import chain_of, free_blocks
from deedstand.disks import Disk, files_first
from deedstand.errors import Full, Halt, NoSuch
from deedstand.shelves import Shelf
from tests.diskways import LoggedDisk, blocks_of, files_on
from tests.test_sheets import refused
from tests.ways import rng_for


def file_disk(files=6, width=8):
    return LoggedDisk(width=width, slot=2, journal=1, files=files)


def files_of(shelf):
    return {name: shelf.load(name) for name in shelf.names()}


def chain_many(width, name, text):
    """The fewest blocks that hold a version, a name, a feed and a text."""
    many = 1
    while many * (width - 1) - 1 < len(name) + 1 + len(text):
        many += 1
    return many


class TestByHand(unittest.TestCase):

    def test_empty(self):
        disk = file_disk()
        shelf = Shelf(disk)
        self.assertIs(shelf.disk, disk)
        self.assertEqual(list(vars(shelf)), ["disk"])
        self.assertEqual((shelf.names(), shelf.version_of("a"), free_blocks(disk)), ((), 0, (7, 8, 9, 10, 11, 12)))
        refused(self, NoSuch, {"what": "file", "name": "a"}, shelf.load, "a")
        refused(self, NoSuch, {"what": "file", "name": "a"}, shelf.drop, "a")
        self.assertEqual(disk.steps, 0)

    def test_steps_of_a_save(self):
        disk = file_disk()
        shelf = Shelf(disk=disk)
        self.assertIsNone(shelf.save(name="ab", text="c\n&", version=8))
        self.assertEqual(disk.taken_log(), [
            ("write", 7, (0, 8, 66, 67, 1, 68, 1, 7)), ("flush",), ("write", 1, (7,) + (0,) * 7), ("flush",)])
        # The text fills the block exactly; by one sign more there are two.
        shelf.save("b", "defgh", 3)
        self.assertEqual(disk.taken_log(), [
            ("write", 8, (9, 3, 67, 1, 69, 70, 71, 72)), ("write", 9, (0, 73, 0, 0, 0, 0, 0, 0)), ("flush",),
            ("write", 1, (7, 8) + (0,) * 6), ("flush",)])
        self.assertEqual((chain_of(disk, 7), chain_of(disk=disk, first=8), free_blocks(disk=disk)),
                         ((7,), (8, 9), (10, 11, 12)))
        # A save over a file puts the new chain into free blocks, and then the old one is free.
        shelf.save("ab", "x", 10)
        self.assertEqual(disk.taken_log(), [
            ("write", 10, (0, 10, 66, 67, 1, 89, 0, 0)), ("flush",), ("write", 1, (10, 8) + (0,) * 6), ("flush",)])
        self.assertEqual((free_blocks(disk), shelf.names()), ((7, 11, 12), ("ab", "b")))
        self.assertEqual((shelf.load(name="ab"), shelf.load("b"), shelf.version_of(name="b")),
                         (("x", 10), ("defgh", 3), 3))
        self.assertIsNone(shelf.drop(name="ab"))
        self.assertEqual(disk.taken_log(), [("flush",), ("write", 1, (0, 8) + (0,) * 6), ("flush",)])
        # The first 0 of the directory, and the lowest free blocks, which need not be side by side.
        shelf.drop("b")
        shelf.save("c", "", 1)
        shelf.save("d", "", 1)
        shelf.save("e", "", 1)
        shelf.drop("d")
        disk.taken_log()
        shelf.save("f", "12345678", 1)
        self.assertEqual(disk.taken_log()[-2], ("write", 1, (7, 8, 9) + (0,) * 5))
        self.assertEqual(chain_of(disk, 8), (8, 10))
        self.assertEqual((shelf.load("f"), shelf.load("c"), type(shelf.load("c"))), (("12345678", 1), ("", 1), tuple))

    def test_what_others_wrote(self):
        # Files of any text, also longer than a sheet; names of 12 signs take two blocks of 8 numbers.
        disk = Disk(width=8, slot=2, journal=1, files=400)
        shelf = Shelf(disk)
        shelf.save("a23456789012", "", 10 ** 9 - 1)
        self.assertEqual((shelf.load("a23456789012"), len(chain_of(disk, files_first(disk)))), (("", 10 ** 9 - 1), 2))
        shelf.save("b", "\n" * 2700, 5)
        self.assertEqual(shelf.load("b"), ("\n" * 2700, 5))
        self.assertEqual(Shelf(disk).names(), ("a23456789012", "b"))

    def test_room(self):
        disk = file_disk(files=3)
        shelf = Shelf(disk)
        for many, is_room in ((0, True), (18, True), (19, False), (4000, False)):
            self.assertIs(shelf.room(name="a", text="x" * many), is_room)
        refused(self, Full, {}, shelf.save, "a", "x" * 19, 1)
        self.assertEqual((disk.steps, shelf.names()), (0, ()))
        shelf.save("a", "x" * 18, 1)
        # The file's own blocks are not free for it.
        self.assertEqual((shelf.room("a", ""), shelf.room("b", ""), free_blocks(disk)), (False, False, ()))
        steps = disk.steps
        for name in ("a", "b"):
            refused(self, Full, {}, shelf.save, name, "", 2)
        self.assertEqual((disk.steps, shelf.load("a")), (steps, ("x" * 18, 1)))

    def test_directory_used_up(self):
        disk = file_disk(files=20)
        shelf = Shelf(disk)
        for k in range(8):
            self.assertIs(shelf.room("f" + str(k), "x"), True)
            shelf.save("f" + str(k), "x", k + 1)
        self.assertEqual((shelf.room("g", ""), shelf.room("f3", "")), (False, True))
        refused(self, Full, {}, shelf.save, "g", "", 1)
        shelf.save("f3", "y", 9)
        shelf.drop("f5")
        self.assertIs(shelf.room("g", ""), True)
        shelf.save("g", "", 7)
        self.assertEqual(disk.read(1)[5], files_first(disk) + 3)
        self.assertEqual(shelf.names(), ("f0", "f1", "f2", "f3", "f4", "f6", "f7", "g"))

    def test_drop_flushes_what_waits(self):
        disk = file_disk()
        shelf = Shelf(disk)
        shelf.save("a", "b", 1)
        disk.write(2, (5,) * 8)
        refused(self, NoSuch, {"what": "file", "name": "b"}, shelf.drop, "b")
        self.assertEqual(disk.pending(), 1)
        disk.limit(1)
        with self.assertRaises(Halt):
            shelf.drop("a")
        self.assertEqual((disk.pending(), disk.crash(()).read(2)), (0, (5,) * 8))


class TestDrawn(unittest.TestCase):

    def test_drawn(self):
        rng = rng_for("shelves")
        fulls = 0
        for _ in range(40):
            width = rng.randint(8, 11)
            disk = file_disk(rng.randint(3, 14), width)
            shelf, want = Shelf(disk), {}
            for version in range(1, 25):
                name, text = rng.choice(("a", "b", "c234567", "d", "e")), "ab\n"[:3] * rng.randint(0, 9)
                chains = sum(chain_many(width, other, told[0]) for other, told in want.items())
                is_room = chain_many(width, name, text) <= disk.files - chains and (name in want or len(want) < width)
                if rng.random() < 0.25:
                    if name in want:
                        shelf.drop(name)
                        del want[name]
                    else:
                        refused(self, NoSuch, {"what": "file", "name": name}, shelf.drop, name)
                else:
                    self.assertIs(shelf.room(name, text), is_room)
                    if is_room:
                        shelf.save(name, text, version)
                        want[name] = (text, version)
                    else:
                        fulls += 1
                        refused(self, Full, {}, shelf.save, name, text, version)
                self.check(disk, shelf, want)
        self.assertGreater(fulls, 50)

    def check(self, disk, shelf, want):
        files, borne = files_on(blocks_of(disk))
        self.assertEqual((files, files_of(shelf)), (want, want))
        self.assertEqual((shelf.names(), disk.pending()), (tuple(sorted(want)), 0))
        self.assertEqual(free_blocks(disk),
                         tuple(block for block in range(7, 7 + disk.files) if block not in borne))
        for name in ("a", "b", "z"):
            self.assertEqual(shelf.version_of(name), want.get(name, ("", 0))[1])


class TestHalts(unittest.TestCase):

    def saved_disk(self):
        disk = file_disk(files=8)
        shelf = Shelf(disk)
        shelf.save("a", "old text", 3)
        shelf.save("b", "other", 5)
        disk.log.clear()
        return disk

    def check_crashes(self, act, name, new, most):
        """At every step, with waiting writes landed in every way: the file is as before or behind, all others stay."""
        came = set()
        for steps in range(most + 1):
            disk = self.saved_disk()
            old = files_of(Shelf(disk))
            behind = {key: told for key, told in old.items() if key != name}
            behind.update({name: new} if new else {})
            disk.limit(steps)
            try:
                act(Shelf(disk))
                self.assertEqual(steps, most)
            except Halt:
                self.assertLess(steps, most)
            writes = list(range(disk.pending()))
            landings = [()] + [tuple((which, many) for which in order) for count in range(1, len(writes) + 1)
                               for order in itertools.permutations(writes, count) for many in (0, 1, 3, 8)]
            for landed in landings:
                got = files_of(Shelf(disk.crash(landed)))
                self.assertIn(got, (old, behind))
                self.assertEqual(files_on(blocks_of(disk.crash(landed)))[0], got)
                came.add(got == old)
            if steps == most:
                self.assertEqual(files_of(Shelf(disk.crash(()))), behind)
        self.assertEqual(came, {True, False})

    def test_saves(self):
        self.check_crashes(lambda shelf: shelf.save("a", "new and longer", 8), "a", ("new and longer", 8), 6)
        self.check_crashes(lambda shelf: shelf.save("c", "new", 8), "c", ("new", 8), 4)

    def test_drops(self):
        self.check_crashes(lambda shelf: shelf.drop("a"), "a", None, 3)


if __name__ == "__main__":
    unittest.main()
