"""Disks: blocks of numbers, writes that wait, flushes, and crashes."""

from deedstand.errors import BadDisk, Halt
from deedstand.kinds import is_below, is_number

SLOTS_FIRST = 2


def slot_first(disk, epoch):
    """Return the first block of the slot of an epoch."""
    return SLOTS_FIRST + epoch % 2 * disk.slot


def journal_first(disk):
    """Return the first block of the journal."""
    return SLOTS_FIRST + 2 * disk.slot


def files_first(disk):
    """Return the first block of those of files."""
    return journal_first(disk) + disk.journal


class Disk:
    """A disk; what has landed on it stays behind a crash."""

    def __init__(self, *, width=16, slot=8, journal=8, files=16):
        self.width = width
        self.slot = slot
        self.journal = journal
        self.files = files
        self.steps = 0
        # How often it was flushed, by whomever.
        self.flush_many = 0
        # How many more steps may be done, None for any number.
        self.steps_left = None
        self.landed = [(0,) * width] * self.block_many()
        self.latest = list(self.landed)
        # Pairs (block, numbers), in the sequence of their writes.
        self.waiting = []

    def block_many(self):
        """Return how many blocks there are."""
        return files_first(self) + self.files

    def check_block(self, block):
        """Raise BadDisk if there is no such block."""
        if not is_below(block, self.block_many()):
            raise BadDisk(block)

    def step(self):
        """Count a step, or raise Halt if none is left."""
        if self.steps_left is not None:
            if self.steps_left == 0:
                raise Halt()
            self.steps_left -= 1
        self.steps += 1

    def read(self, block):
        """Return the tuple written last to a block."""
        self.check_block(block)
        return self.latest[block]

    def write(self, block, numbers):
        """Give a block new numbers, which wait."""
        self.check_block(block)
        if not isinstance(numbers, tuple) or len(numbers) != self.width:
            raise BadDisk(block)
        if not all([is_number(number) for number in numbers]):
            raise BadDisk(block)
        self.step()
        self.latest[block] = numbers
        self.waiting.append((block, numbers))

    def flush(self):
        """Let all waiting writes land."""
        self.step()
        self.flush_many += 1
        self.landed = list(self.latest)
        self.waiting = []

    def limit(self, many):
        """Let many more steps be done, None for any number."""
        self.steps_left = many

    def pending(self):
        """Return how many writes wait."""
        return len(self.waiting)

    def crash(self, landed):
        """Return a new disk with what has landed, and what landed tells of the waiting writes."""
        disk = Disk(width=self.width, slot=self.slot, journal=self.journal, files=self.files)
        blocks = list(self.landed)
        for which, many in landed:
            if which < len(self.waiting):
                block, numbers = self.waiting[which]
                blocks[block] = numbers[:many] + blocks[block][many:]
        disk.landed = blocks
        disk.latest = list(blocks)
        return disk
