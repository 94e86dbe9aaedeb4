"""The records that make a state, without those that others have undone."""

from deedstand.recordtexts import row_of_record


def row_size(record):
    """Return the number of signs of a record's row, with its feed."""
    return len(row_of_record(record)) + 1


class KeptRows:
    """The kept ones of all records told."""

    def __init__(self):
        # From what a record sets to the record, in the sequence of the records.
        self.kept = {}
        # From the number of a sheet to its youngest node, if it has one besides the root.
        self.youngest = {}
        # The signs of all rows, with their feeds.
        self.size = 0

    def take_out(self, key):
        """Drop the record that set something, if there is one."""
        if key in self.kept:
            self.size -= row_size(self.kept[key])
            del self.kept[key]

    def put_last(self, key, record):
        """Keep a record behind all others, in place of the one that set the same."""
        self.take_out(key)
        self.kept[key] = record
        self.size += row_size(record)

    def tell_node(self, record):
        """Keep an edit or a turn, which makes a node the place."""
        number = record[1]
        node = self.youngest.get(number, 0) + 1
        self.youngest[number] = node
        self.take_out(("go", number))
        self.put_last(("node", number, node), record)

    def tell_go(self, record):
        """Keep a go, unless it leads where the sheet is without it."""
        key = record[:2]
        self.take_out(key)
        if record[2] != self.youngest.get(record[1], 0):
            self.put_last(key, record)

    def tell_keep(self, record):
        """Keep a keep, unless it takes the register away."""
        key = record[:2]
        self.take_out(key)
        if record[2] != ():
            self.put_last(key, record)

    def tell(self, record):
        """Keep a record, and drop what it undoes."""
        word = record[0]
        if word == "edit" or word == "turn":
            self.tell_node(record)
        elif word == "go":
            self.tell_go(record)
        elif word == "keep":
            self.tell_keep(record)
        elif word == "mark":
            self.put_last(record[:3], record)
        elif word == "unmark":
            self.take_out(("mark",) + record[1:])
        else:
            self.put_last(record[:2], record)

    def trial(self):
        """Return other kept rows that are the same and change by themselves."""
        other = KeptRows()
        other.kept = {key: self.kept[key] for key in self.kept}
        other.youngest = dict(self.youngest)
        other.size = self.size
        return other

    def records(self):
        """Return the kept records, in sequence."""
        return tuple(self.kept.values())


def kept_of(records):
    """Return the KeptRows of records."""
    kept = KeptRows()
    for record in records:
        kept.tell(record)
    return kept


def kept_rows(records):
    """Return the kept ones of records that can be opened, in sequence."""
    return kept_of(records).records()
