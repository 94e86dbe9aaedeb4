"""What a deed may be, before it is done."""

from deedstand.birthrows import chunk_size
from deedstand.errors import BadSplice
from deedstand.limits import MOST_BORN, MOST_CHUNKS, MOST_NODES, MOST_ROUNDS, MOST_SPLICES, MOST_TEXT, check_many
from deedstand.splicing import check_round


def size_behind(size, rounds):
    """Return the size of the text behind the rounds; raise BadSplice if they are no deed on size signs."""
    if len(rounds) == 0:
        raise BadSplice(-1)
    for splices in rounds:
        check_round(size, splices)
        size += sum([len(text) - cut for _, cut, text in splices])
    return size


def check_deed(nodes, births, size, rounds):
    """Raise the first error of a deed, told by its rounds, on a text of size signs of a sheet."""
    check_many(len(rounds), MOST_ROUNDS, "rounds")
    check_many(sum([len(splices) for splices in rounds]), MOST_SPLICES, "splices")
    size = size_behind(size, rounds)
    put = [len(splice[2]) for splices in rounds for splice in splices if splice[2] != ""]
    born = [chunk_size(births, chunk) for chunk in range(1, len(births))]
    check_many(len(nodes) + 1, MOST_NODES, "nodes")
    check_many(len(born) + len(put), MOST_CHUNKS, "chunks")
    check_many(sum(born) + sum(put), MOST_BORN, "born")
    check_many(size, MOST_TEXT, "text")
