"""Records that are drawn, and second ways of reckoning what they make."""

from deedstand.errors import DeskError
from deedstand.lastingstate import Lasting
from tests.ways import drawn_round, plain_spliced

NAMES = ("a", "b2", "abcdefghijkl")


def drawn_rounds(rng, text):
    rounds = []
    for _ in range(rng.choice((1, 1, 2))):
        rounds.append(drawn_round(rng, len(text), 2, 'x"\\\n'))
        text = plain_spliced(text, rounds[-1])
    return tuple(rounds)


def drawn_record(rng, lasting):
    """A record that the state would often let."""
    many = len(lasting.sheets)
    kind = rng.random()
    if many == 0 or kind < 0.08:
        return ("sheet", rng.choice(("s", "t", "u")) + str(rng.randint(1, 9)))
    b = rng.randint(1, many)
    sheet = lasting.sheets[b - 1]
    nodes = sheet.nodes
    if kind < 0.45:
        parent = sheet.place if rng.random() < 0.8 else rng.randrange(len(nodes))
        text = sheet.text_at(parent)
        if len(text) > 12:
            return ("edit", b, parent, (((0, 8, ""),),))
        return ("edit", b, parent, drawn_rounds(rng, text))
    if kind < 0.55 and sheet.turnable():
        return ("turn", b, sheet.place, (rng.choice(sheet.turnable()),))
    if kind < 0.7:
        return ("go", b, rng.randrange(len(nodes)))
    if kind < 0.8:
        chunk = rng.randrange(len(sheet.births))
        index = rng.randrange(2 if chunk == 0 else len(sheet.births[chunk][3]))
        return ("mark", b, rng.choice(NAMES), chunk, index, rng.randint(0, 1))
    if kind < 0.85 and sheet.marks:
        return ("unmark", b, rng.choice(sorted(sheet.marks)))
    if kind < 0.95:
        rows = tuple(rng.choice(("", "x", 'a"b', "\\", "\n")) for _ in range(rng.randint(0, 3)))
        return ("keep", rng.choice(NAMES), rows)
    return ("tie", b, rng.choice(NAMES), rng.randint(0, 9), rng.randint(0, 9))


def drawn_records(rng, many):
    """Records that can be told one by one."""
    lasting, records = Lasting(), []
    while len(records) < many:
        record = drawn_record(rng, lasting)
        try:
            lasting.tell(record)
        except DeskError:
            continue
        records.append(record)
    return tuple(records)


def is_kept(records, k):
    """[79], for the record with the index k, by looking at all others."""
    record, behind = records[k], records[k + 1:]
    word = record[0]
    if word in ("sheet", "edit", "turn"):
        return True
    if word == "go":
        made = [one for one in records if one[0] in ("edit", "turn") and one[1] == record[1]]
        later = [one for one in behind if one[0] in ("edit", "turn", "go") and one[1] == record[1]]
        return not later and record[2] != len(made)
    if word == "mark":
        return not [one for one in behind if one[0] in ("mark", "unmark") and one[1:3] == record[1:3]]
    if word == "keep":
        return record[2] != () and not [one for one in behind if one[0] == "keep" and one[1] == record[1]]
    if word == "tie":
        return not [one for one in behind if one[0] == "tie" and one[1] == record[1]]
    return False


def plain_kept(records):
    return tuple(record for k, record in enumerate(records) if is_kept(records, k))


def plain_row(record):
    """[75]: the row of a record, word by word."""
    def quoted(text):
        return '"' + text.replace("\\", "\\\\").replace('"', '\\"').replace("\n", "\\n") + '"'

    words = [record[0]]
    for part in record[1:]:
        if not isinstance(part, tuple):
            words.append(str(part))
        elif record[0] == "edit":
            for k, splices in enumerate(part):
                for n, (at, cut, text) in enumerate(splices):
                    if n or k:
                        words.append("," if n else "/")
                    words += [str(at), str(cut), quoted(text)]
        else:
            words += [str(one) if isinstance(one, int) else quoted(one) for one in part]
    return " ".join(words)
