"""[74] regions: codes with a stamp, in blocks of a disk."""

import unittest

from deedstand.disks import Disk
from deedstand.regions import put_region, read_region
from deedstand.stamps import END_MARK, number_for
from tests.ways import rng_for


class WatchedDisk(Disk):
    """A disk that keeps what was written."""

    def __init__(self, **sizes):
        self.written = []
        super().__init__(**sizes)

    def write(self, block, numbers):
        super().write(block, numbers)
        self.written.append((block, numbers))


def numbers_of(disk, first, many):
    return [number for block in range(first, first + many) for number in disk.read(block)]


def disk_with(first, numbers, **sizes):
    """A disk whose region from first on begins with these numbers."""
    disk = WatchedDisk(width=8, **sizes)
    for at in range(0, len(numbers), 8):
        part = tuple(numbers[at:at + 8])
        disk.write(first + at // 8, part + (0,) * (8 - len(part)))
    disk.written.clear()
    return disk


class TestRead(unittest.TestCase):

    def test_ends(self):
        codes = tuple(range(96))[:20]
        numbers = [number_for(7, code) for code in codes]
        disk = disk_with(5, numbers)
        self.assertEqual(read_region(disk, 5, 3, 7), codes)
        self.assertEqual(read_region(disk=disk, first=5, many=2, stamp=7), codes[:16])
        self.assertEqual((read_region(disk, 5, 0, 7), read_region(disk, 5, 3, 6), read_region(disk, 8, 2, 0)),
                         ((),) * 3)
        self.assertEqual(read_region(disk, 6, 2, 7), codes[8:])
        for at in range(20):
            for wrong in (0, number_for(6, 3), number_for(8, 3), number_for(0, 0)):
                disk = disk_with(5, numbers[:at] + [wrong] + numbers[at + 1:])
                got = read_region(disk, 5, 3, 7)
                self.assertEqual(got, codes[:at])
                self.assertIs(type(got), tuple)

    def test_at_the_last_number(self):
        numbers = [number_for(1, END_MARK)] * 24
        disk = disk_with(2, numbers)
        self.assertEqual(read_region(disk, 2, 3, 1), (END_MARK,) * 24)
        # Reading takes no step.
        steps = disk.steps
        read_region(disk, 2, 3, 1)
        self.assertEqual((disk.steps, disk.written), (steps, []))
        # What waits is read, too.
        self.assertEqual(disk.pending(), 3)


class TestPut(unittest.TestCase):

    def test_every_index(self):
        for start in range(25):
            for many in (0, 1, 2, 7, 8, 9, 17):
                disk = disk_with(3, [number_for(1, 5)] * 40, slot=2)
                before = numbers_of(disk, 0, disk.block_many())
                codes = tuple((start + k) % 96 for k in range(many))
                self.assertIsNone(put_region(disk, 3, codes, start, 2))
                want = list(before)
                want[24 + start:24 + start + many] = [number_for(2, code) for code in codes]
                self.assertEqual(numbers_of(disk, 0, disk.block_many()), want)
                changed = [block for block in range(disk.block_many())
                           if want[8 * block:8 * block + 8] != before[8 * block:8 * block + 8]]
                self.assertEqual(disk.written, [(block, tuple(want[8 * block:8 * block + 8])) for block in changed])

    def test_blocks_that_stay(self):
        codes = tuple(range(32))
        disk = disk_with(3, [number_for(4, code) for code in codes])
        self.assertIsNone(put_region(disk=disk, first=3, codes=codes, start=0, stamp=4))
        put_region(disk, 3, codes[3:20], 3, 4)
        self.assertEqual((disk.written, disk.steps), ([], 4))
        # Only the blocks in which a number changes are written.
        put_region(disk, 3, codes[:9] + (90,) + codes[10:31] + (91,), 0, 4)
        self.assertEqual([block for block, _ in disk.written], [4, 6])
        put_region(disk, 3, [1, 2], 0, 4)
        self.assertEqual(disk.read(3)[:3], (number_for(4, 1), number_for(4, 2), number_for(4, 2)))

    def test_what_read_gives_counts(self):
        # A block that waits has what was written last, not what has landed.
        disk = disk_with(3, [])
        put_region(disk, 3, (1,), 0, 1)
        put_region(disk, 3, (1,), 0, 1)
        self.assertEqual((disk.pending(), disk.steps), (1, 1))

    def test_drawn(self):
        rng = rng_for("regions")
        for _ in range(100):
            width = rng.randint(8, 12)
            disk = Disk(width=width, slot=3, journal=1, files=1)
            codes = tuple(rng.randrange(96) for _ in range(rng.randint(0, 3 * width)))
            put_region(disk, 2, codes, 0, 3)
            self.assertEqual(read_region(disk, 2, 3, 3), codes)
            cut = rng.randint(0, len(codes))
            more = tuple(rng.randrange(96) for _ in range(rng.randint(0, 3 * width - cut)))
            put_region(disk, 2, more, cut, 3)
            self.assertEqual(read_region(disk, 2, 3, 3), (codes[:cut] + more) + codes[cut + len(more):])

    def test_longest(self):
        disk = Disk(width=64, slot=400, journal=1, files=1)
        codes = tuple(k % 96 for k in range(64 * 400))
        put_region(disk, 2, codes, 0, 9)
        self.assertEqual((read_region(disk, 2, 400, 9), disk.steps), (codes, 400))


if __name__ == "__main__":
    unittest.main()
