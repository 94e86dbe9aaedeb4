"""[73] stamps and block numbers, [74] the disk; [10]."""

import unittest

from deedstand.disks import Disk, files_first, journal_first, slot_first
from deedstand.errors import BadDisk, Halt
from deedstand.stamps import END_MARK, code_in, number_for, stamp_of
from tests.test_sheets import refused
from tests.ways import ANY_VALUES, rng_for


def small_disk():
    return Disk(width=8, slot=2, journal=1, files=1)


def eight(first):
    return tuple(range(first, first + 8))


def blocks_of(disk):
    return [disk.read(block) for block in range(disk.block_many())]


class PlainDisk:
    """A second disk, after [10]: what landed, and all writes since."""

    def __init__(self, width, many):
        self.landed = [(0,) * width for _ in range(many)]
        self.waiting = []

    def now(self):
        blocks = list(self.landed)
        for block, numbers in self.waiting:
            blocks[block] = numbers
        return blocks

    def flush(self):
        self.landed, self.waiting = self.now(), []

    def crashed(self, landed):
        blocks = list(self.landed)
        for which, many in landed:
            if which < len(self.waiting):
                block, numbers = self.waiting[which]
                blocks[block] = tuple(numbers[k] if k < many else old for k, old in enumerate(blocks[block]))
        return blocks


class TestStamps(unittest.TestCase):

    def test_there_and_back(self):
        self.assertEqual(END_MARK, 95)
        self.assertEqual((stamp_of(0), code_in(0)), (-1, -1))
        self.assertEqual((number_for(0, 0), number_for(0, 95), number_for(1, 0), number_for(3, 7)), (1, 96, 129, 392))
        self.assertEqual(number_for(stamp=10 ** 6 - 1, code=END_MARK), (10 ** 6 - 1) * 128 + 96)
        for stamp in (0, 1, 2, 127, 128, 999, 10 ** 6 - 1):
            for code in range(96):
                number = number_for(stamp, code)
                self.assertEqual(number, stamp * 128 + 1 + code)
                self.assertEqual((stamp_of(number=number), code_in(number=number)), (stamp, code))


class TestSizes(unittest.TestCase):

    def test_blocks(self):
        for disk, slots, journal, files, many in (
                (Disk(), (2, 10), 18, 26, 42), (small_disk(), (2, 4), 6, 7, 8),
                (Disk(width=64, slot=400, journal=400, files=400), (2, 402), 802, 1202, 1602),
                (Disk(slot=3, journal=5, files=7), (2, 5), 8, 13, 20)):
            for epoch in (0, 1, 2, 3, 10 ** 6 - 2, 10 ** 6 - 1):
                self.assertEqual(slot_first(disk, epoch), slots[epoch % 2])
            self.assertEqual((journal_first(disk), files_first(disk), disk.block_many()), (journal, files, many))
            self.assertEqual((slot_first(disk=disk, epoch=1), journal_first(disk=disk), files_first(disk=disk)),
                             (slots[1], journal, files))

    def test_fields(self):
        disk = Disk()
        self.assertEqual((disk.width, disk.slot, disk.journal, disk.files, disk.steps), (16, 8, 8, 16, 0))
        disk = Disk(width=9, slot=3, journal=4, files=5)
        self.assertEqual((disk.width, disk.slot, disk.journal, disk.files, disk.steps), (9, 3, 4, 5, 0))
        self.assertEqual(blocks_of(disk), [(0,) * 9] * 17)
        with self.assertRaises(TypeError):
            Disk(16)


class TestDisk(unittest.TestCase):

    def test_example(self):
        disk = small_disk()
        disk.write(1, (1, 2, 3, 4, 5, 6, 7, 8))
        disk.write(1, (9, 9, 9, 9, 9, 9, 9, 9))
        self.assertEqual(disk.crash(((1, 2), (0, 1))).read(1), (1, 9, 0, 0, 0, 0, 0, 0))

    def test_read_and_write(self):
        disk = small_disk()
        self.assertIsNone(disk.write(block=3, numbers=eight(1)))
        self.assertEqual((disk.read(block=3), disk.pending(), disk.steps), (eight(1), 1, 1))
        self.assertIsNone(disk.write(3, eight(20)))
        self.assertEqual((disk.read(3), disk.pending(), disk.steps), (eight(20), 2, 2))
        self.assertEqual(disk.crash(()).read(3), (0,) * 8)
        self.assertIsNone(disk.flush())
        self.assertEqual((disk.read(3), disk.pending(), disk.steps), (eight(20), 0, 3))
        self.assertIsNone(disk.flush())
        self.assertEqual((disk.steps, disk.crash(()).read(3)), (4, eight(20)))
        disk.write(0, (10 ** 9,) * 8)
        self.assertEqual(disk.read(0), (10 ** 9,) * 8)

    def test_bad_blocks(self):
        disk = small_disk()
        for block in (8, 9, 10 ** 9, -1, True, False, None, "1", (1,)):
            refused(self, BadDisk, {"block": block}, disk.read, block)
            refused(self, BadDisk, {"block": block}, disk.write, block, eight(1))
            refused(self, BadDisk, {"block": block}, disk.write, block, ())
        self.assertEqual((disk.steps, disk.pending(), blocks_of(disk)), (0, 0, [(0,) * 8] * 8))

    def test_bad_numbers(self):
        disk = small_disk()
        wrong = [(1,) * 7, (1,) * 9, [1] * 8, "12345678", {k: k for k in range(8)}, range(8), 8]
        for thing in ANY_VALUES + (1.0, -5):
            if type(thing) is not int or thing < 0:
                wrong += [thing, (1,) * 7 + (thing,), (thing,) + (1,) * 7]
        for numbers in wrong:
            refused(self, BadDisk, {"block": 2}, disk.write, 2, numbers)
        self.assertEqual((disk.steps, disk.pending(), disk.read(2)), (0, 0, (0,) * 8))
        # BadDisk comes ahead of Halt.
        disk.limit(0)
        refused(self, BadDisk, {"block": 2}, disk.write, 2, ())
        refused(self, BadDisk, {"block": 8}, disk.write, 8, eight(1))
        refused(self, Halt, {}, disk.write, 2, eight(1))

    def test_limits(self):
        disk = small_disk()
        self.assertIsNone(disk.limit(2))
        disk.write(1, eight(1))
        disk.flush()
        # Met exactly; each further step is refused, and changes nothing.
        for _ in range(3):
            refused(self, Halt, {}, disk.flush)
            refused(self, Halt, {}, disk.write, 1, eight(5))
        self.assertEqual((disk.steps, disk.pending(), disk.read(1)), (2, 0, eight(1)))
        disk.limit(many=1)
        disk.write(1, eight(7))
        refused(self, Halt, {}, disk.flush)
        self.assertEqual((disk.steps, disk.pending(), disk.read(1)), (3, 1, eight(7)))
        self.assertEqual(disk.crash(()).read(1), eight(1))
        disk.limit(None)
        for _ in range(20):
            disk.flush()
        disk.limit(0)
        refused(self, Halt, {}, disk.flush)
        self.assertEqual((disk.steps, disk.pending()), (23, 0))

    def test_crash(self):
        disk = small_disk()
        disk.write(2, eight(1))
        disk.flush()
        disk.write(2, eight(11))
        disk.write(3, eight(21))
        disk.write(2, eight(31))
        disk.limit(0)
        before = blocks_of(disk)
        for landed, two, three in (
                ((), eight(1), (0,) * 8),
                (((0, 8),), eight(11), (0,) * 8),
                (((0, 99), (1, 9)), eight(11), eight(21)),
                (((2, 3), (0, 1)), (11, 32, 33, 4, 5, 6, 7, 8), (0,) * 8),
                (((0, 1), (2, 3)), (31, 32, 33, 4, 5, 6, 7, 8), (0,) * 8),
                (((1, 0), (1, 2), (1, 1)), eight(1), (21, 22, 0, 0, 0, 0, 0, 0)),
                (((3, 8), (99, 1)), eight(1), (0,) * 8),
                (((0, 2), (2, 1), (0, 2)), (11, 12, 3, 4, 5, 6, 7, 8), (0,) * 8)):
            other = disk.crash(landed=landed)
            self.assertEqual((other.read(2), other.read(3)), (two, three))
            self.assertEqual((other.steps, other.pending(), other.width, other.slot, other.journal, other.files),
                             (0, 0, 8, 2, 1, 1))
            # What landed lies on it through another crash, too.
            self.assertEqual(blocks_of(other.crash(())), blocks_of(other))
            # The new disk has no limit, and both change by themselves.
            other.write(2, eight(41))
            other.flush()
            self.assertEqual((other.read(2), other.steps), (eight(41), 2))
            self.assertEqual((blocks_of(disk), disk.pending(), disk.steps), (before, 3, 5))
            again = other.crash(())
            self.assertEqual(blocks_of(again), blocks_of(other))

    def test_drawn(self):
        rng = rng_for("disks")
        for _ in range(60):
            disk = Disk(width=8, slot=2, journal=rng.randint(1, 2), files=rng.randint(1, 2))
            plain, steps = PlainDisk(8, disk.block_many()), 0
            for _ in range(25):
                if rng.random() < 0.2:
                    disk.flush()
                    plain.flush()
                else:
                    block, numbers = rng.randrange(disk.block_many()), tuple(rng.randint(0, 3) for _ in range(8))
                    disk.write(block, numbers)
                    plain.waiting.append((block, numbers))
                steps += 1
                self.assertEqual((blocks_of(disk), disk.pending(), disk.steps),
                                 (plain.now(), len(plain.waiting), steps))
                landed = tuple((rng.randint(0, len(plain.waiting)), rng.randint(0, 10))
                               for _ in range(rng.randint(0, 4)))
                self.assertEqual(blocks_of(disk.crash(landed)), plain.crashed(landed))

    def test_longest(self):
        disk = Disk(width=64, slot=400, journal=400, files=400)
        for block in range(disk.block_many()):
            disk.write(block, (block,) * 64)
        other = disk.crash(tuple((block, 63) for block in range(1602)))
        self.assertEqual((other.read(1601), other.read(0)), ((1601,) * 63 + (0,), (0,) * 64))
        disk.flush()
        self.assertEqual((disk.steps, disk.crash(()).read(1601)), (1603, (1601,) * 64))


if __name__ == "__main__":
    unittest.main()
