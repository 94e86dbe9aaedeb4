"""Disks that tell what is done with them, and second ways of reckoning what has to be done."""

from deedstand.alphabet import ALPHABET
from deedstand.disks import Disk
from tests.recordways import plain_kept, plain_row


class LoggedDisk(Disk):
    """A disk with a log of its steps: ("write", block, numbers) and ("flush",)."""

    def __init__(self, **sizes):
        self.log = []
        super().__init__(**sizes)

    def write(self, block, numbers):
        super().write(block, numbers)
        self.log.append(("write", block, numbers))

    def flush(self):
        super().flush()
        self.log.append(("flush",))

    def taken_log(self):
        log, self.log = self.log, []
        return log


def blocks_of(disk):
    return [disk.read(block) for block in range(disk.block_many())]


def put_writes(blocks, width, first, start, codes, stamp):
    """The writes with which the numbers of a region get codes; blocks changes."""
    numbers = [number for block in blocks[first:] for number in block]
    numbers[start:start + len(codes)] = [stamp * 128 + 1 + code for code in codes]
    log = []
    for k in range(len(blocks) - first):
        new = tuple(numbers[k * width:(k + 1) * width])
        if new != blocks[first + k]:
            blocks[first + k] = new
            log.append(("write", first + k, new))
    return log


def codes_of(text):
    return [ALPHABET.index(sign) for sign in text]


def snapshot_text(moment, records):
    return "".join(row + "\n" for row in [f"moment {moment}"] + [plain_row(record) for record in plain_kept(records)])


class PlainJournal:
    """[10] and [81] once more: all records, the blocks as they have to be, and the steps that are due."""

    def __init__(self, disk, epoch=0, moment=0, records=()):
        self.width, self.slot, self.journal = disk.width, disk.slot, disk.journal
        self.blocks, self.waits = blocks_of(disk), disk.pending()
        self.epoch, self.records, self.filled = epoch, tuple(records), 0
        # The moments at which the records that are known stand.
        self.told = moment + len(self.records)
        self.log = self.snapshot()
        self.sure = self.told

    def snapshot(self):
        log = [("flush",)] if self.waits else []
        self.epoch += 1
        first = 2 + self.epoch % 2 * self.slot
        codes = codes_of(snapshot_text(self.told, self.records)) + [95]
        log += put_writes(self.blocks, self.width, first, 0, codes, self.epoch)
        self.blocks[0] = (self.epoch,) + (0,) * (self.width - 1)
        self.filled = self.waits = 0
        self.sure = self.told
        return log + [("flush",), ("write", 0, self.blocks[0]), ("flush",)]

    def fits(self, records):
        return len(snapshot_text(self.told + len(records), self.records + records)) + 1 <= self.slot * self.width

    def tell(self, record):
        """The steps of a telling that is let."""
        self.told += 1
        self.records += (record,)
        row = plain_row(record) + "\n"
        if self.filled + len(row) > self.journal * self.width:
            return self.snapshot()
        log = put_writes(self.blocks, self.width, 2 + 2 * self.slot, self.filled, codes_of(row), self.epoch)
        self.filled += len(row)
        self.waits += len(log)
        return log

    def flush(self):
        self.waits, self.sure = 0, self.told
        return [("flush",)]


def file_numbers(blocks, first):
    """The numbers of a chain, and its blocks, by following it."""
    chain, numbers = [], []
    while first:
        chain.append(first)
        numbers += blocks[first][1:]
        first = blocks[first][0]
    return chain, numbers


def files_on(blocks):
    """All files: name -> (text, version), and all blocks of chains."""
    files, borne = {}, []
    for first in blocks[1]:
        if first:
            chain, numbers = file_numbers(blocks, first)
            borne += chain
            signs = "".join(ALPHABET[number - 1] for number in numbers[1:] if number)
            name, text = signs.split("\n", 1)
            assert name not in files
            files[name] = (text, numbers[0])
    assert len(set(borne)) == len(borne)
    return files, borne
