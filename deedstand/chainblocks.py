"""Chains of blocks, in which files lie."""

from deedstand.alphabet import code_of, sign_of
from deedstand.disks import files_first

DIRECTORY = 1


def chain_of(disk, first):
    """Return the blocks of the chain that begins with first."""
    blocks = [first]
    while disk.read(blocks[-1])[0] != 0:
        blocks.append(disk.read(blocks[-1])[0])
    return tuple(blocks)


def free_blocks(disk):
    """Return the blocks of those of files that no chain bears, ascending."""
    borne = {}
    for first in disk.read(DIRECTORY):
        if first != 0:
            for block in chain_of(disk, first):
                borne[block] = True
    start = files_first(disk)
    return tuple([block for block in range(start, start + disk.files) if block not in borne])


def chain_size(disk, name, text):
    """Return how many blocks the chain of a file has."""
    # Besides the version, the signs and the feed each block has the number of the next one.
    each = disk.width - 1
    numbers = 1 + len(name) + 1 + len(text)
    return (numbers + each - 1) // each


def chain_writes(disk, blocks, name, text, version):
    """Return the list of pairs (block, numbers) that make the chain of a file in some blocks, ascending."""
    numbers = [version] + [1 + code_of(sign) for sign in name + "\n" + text]
    each = disk.width - 1
    writes = []
    for at, block in enumerate(blocks):
        behind = blocks[at + 1] if at + 1 < len(blocks) else 0
        part = numbers[at * each:(at + 1) * each]
        writes.append((block, tuple([behind] + part + [0] * (each - len(part)))))
    return writes


def file_of(disk, first):
    """Return the triple (name, text, version) of the file whose chain begins with first."""
    numbers = []
    for block in chain_of(disk, first):
        numbers.extend(disk.read(block)[1:])
    signs = "".join([sign_of(number - 1) for number in numbers[1:] if number != 0])
    name, _, text = signs.partition("\n")
    return (name, text, numbers[0])
