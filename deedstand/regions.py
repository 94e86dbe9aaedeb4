"""Regions of a disk: blocks whose numbers are codes with a stamp."""

from deedstand.stamps import code_in, number_for, stamp_of


def read_region(disk, first, many, stamp):
    """Return the codes ahead of the first number of many blocks that is 0 or has another stamp."""
    codes = []
    for block in range(first, first + many):
        for number in disk.read(block):
            if stamp_of(number) != stamp:
                return tuple(codes)
            codes.append(code_in(number))
    return tuple(codes)


def put_region(disk, first, codes, start, stamp):
    """Give the numbers of a region from an index on the codes with a stamp; write the blocks that change."""
    numbers = tuple([number_for(stamp, code) for code in codes])
    end = start + len(numbers)
    at = start
    while at < end:
        block = first + at // disk.width
        begin = at - at % disk.width
        upto = min(begin + disk.width, end)
        old = disk.read(block)
        new = old[:at - begin] + numbers[at - start:upto - start] + old[upto - begin:]
        if new != old:
            disk.write(block, new)
        at = upto
