"""The files of a disk."""

from deedstand.chainblocks import DIRECTORY, chain_size, chain_writes, file_of, free_blocks
from deedstand.errors import Full, NoSuch


class Shelf:
    """The files of a disk, each a text with a version."""

    def __init__(self, disk):
        self.disk = disk

    def files(self):
        """Return a dict from the files' names to triples (index in the directory, text, version)."""
        found = {}
        for index, first in enumerate(self.disk.read(DIRECTORY)):
            if first != 0:
                name, text, version = file_of(self.disk, first)
                found[name] = (index, text, version)
        return found

    def put_first(self, index, first):
        """Give the directory's number with an index the first block of a chain, or 0."""
        numbers = self.disk.read(DIRECTORY)
        self.disk.write(DIRECTORY, numbers[:index] + (first,) + numbers[index + 1:])

    def names(self):
        """Return the names of the files, ascending."""
        return tuple(sorted(self.files()))

    def load(self, name):
        """Return the pair of a file's text and version."""
        files = self.files()
        if name not in files:
            raise NoSuch("file", name)
        return files[name][1:]

    def version_of(self, name):
        """Return the version of a file, 0 if there is no such file."""
        files = self.files()
        if name not in files:
            return 0
        return files[name][2]

    def room(self, name, text):
        """Return whether a file with a name and a text can be saved."""
        if chain_size(self.disk, name, text) > len(free_blocks(self.disk)):
            return False
        return name in self.files() or 0 in self.disk.read(DIRECTORY)

    def save(self, name, text, version):
        """Save a file, new or anew."""
        if not self.room(name, text):
            raise Full()
        files = self.files()
        index = files[name][0] if name in files else self.disk.read(DIRECTORY).index(0)
        blocks = free_blocks(self.disk)[:chain_size(self.disk, name, text)]
        for block, numbers in chain_writes(self.disk, blocks, name, text, version):
            self.disk.write(block, numbers)
        # The chain has landed before the directory tells of it, so that a crash leaves one whole file.
        self.disk.flush()
        self.put_first(index, blocks[0])
        self.disk.flush()

    def drop(self, name):
        """Take a file away."""
        files = self.files()
        if name not in files:
            raise NoSuch("file", name)
        self.disk.flush()
        self.put_first(files[name][0], 0)
        self.disk.flush()
