"""[75] records, [76] their rows, there and back; [82]."""

import unittest

from deedstand.alphabet import ALPHABET
from deedstand.errors import BadLine
from deedstand.linewords import words_of
from deedstand.recordkinds import is_record
from deedstand.recordreading import record_of
from deedstand.recordtexts import row_of_record
from tests.recordways import drawn_records, plain_row
from tests.test_sheets import refused
from tests.ways import ANY_VALUES, rng_for

BIG = 10 ** 9

# The examples of [75], with their rows.
EXAMPLES = (
    (("sheet", "a"), "sheet a"),
    (("edit", 1, 0, (((0, 0, "a"), (5, 1, "")), ((0, 1, "x"),))), 'edit 1 0 0 0 "a" , 5 1 "" / 0 1 "x"'),
    (("turn", 1, 4, (2, 3)), "turn 1 4 2 3"),
    (("go", 1, 0), "go 1 0"),
    (("mark", 1, "m", 2, 0, 1), "mark 1 m 2 0 1"),
    (("unmark", 1, "m"), "unmark 1 m"),
    (("keep", "r", ("row", "row")), 'keep r "row" "row"'),
    (("tie", 1, "f", 0, 8), "tie 1 f 0 8"),
)

MORE = (
    (("keep", "r", ()), "keep r"),
    (("keep", "r", ("",)), 'keep r ""'),
    (("turn", BIG - 1, 0, (0,)), "turn 999999999 0 0"),
    (("turn", 1, 0, (3, 3, 1)), "turn 1 0 3 3 1"),
    (("edit", 2, BIG - 1, (((0, 0, ""),),)), 'edit 2 999999999 0 0 ""'),
    (("edit", 1, 1, (((9, 9, '"\\\n'),), ((1, 1, "b"), (0, 0, "")), ((0, 2, ""),))),
     'edit 1 1 9 9 "\\"\\\\\\n" / 1 1 "b" , 0 0 "" / 0 2 ""'),
    (("mark", 7, "a23456789012", 0, 1, 0), "mark 7 a23456789012 0 1 0"),
    (("sheet", "sheet"), "sheet sheet"),
    (("keep", "keep", ("keep",)), 'keep keep "keep"'),
    (("tie", 1, "f", BIG - 1, BIG - 1), "tie 1 f 999999999 999999999"),
)

# What each part may be: good values, and values that are nearly good.
NUMBERS = ((0, 1, 17, BIG - 1), (BIG, -1, True, False, "1", None, 1.0, (1,)))
AT_LEAST_ONE = ((1, 2, BIG - 1), (0, BIG, True, False, -1, "1", None))
NAMES = (("a", "z9", "a23456789012"), ("", "A", "9a", "a234567890123", "a b", "a_", 1, None, True, ("a",)))
SIDES = ((0, 1), (2, -1, True, False, "0", None))
TEXTS = (("", "a", ALPHABET * 50), ("\t", "\u00e4", 1, None, True, b"a", ("a",)))
PARTS = {
    "sheet": (NAMES,),
    "edit": (AT_LEAST_ONE, NUMBERS, None),
    "turn": (AT_LEAST_ONE, NUMBERS, None),
    "go": (AT_LEAST_ONE, NUMBERS),
    "mark": (AT_LEAST_ONE, NAMES, NUMBERS, NUMBERS, SIDES),
    "unmark": (AT_LEAST_ONE, NAMES),
    "keep": (NAMES, None),
    "tie": (AT_LEAST_ONE, NAMES, NUMBERS, NUMBERS),
}


def exchanged(record, at, value):
    return record[:at] + (value,) + record[at + 1:]


class TestKinds(unittest.TestCase):

    def test_examples(self):
        for record, _ in EXAMPLES + MORE:
            self.assertIs(is_record(record), True)
            self.assertIs(is_record(thing=list(record)), False)
            self.assertIs(is_record(record[1:]), False)
            for at in range(len(record)):
                self.assertIs(is_record(record[:at] + record[at + 1:]), False, record)
            self.assertIs(is_record(record + (0,)), False)
            for word in ("", "Sheet", "sheets", "edit ", 1, True, None, [], {}, ("go",)):
                self.assertIs(is_record(exchanged(record, 0, word)), False)

    def test_any_value(self):
        for thing in ANY_VALUES + ("sheet", "sheet a", ("sheet",), ("go",), {"sheet": "a"}, ("sheet", "a", "b")):
            self.assertIs(is_record(thing), False)

    def test_plain_parts(self):
        for record, _ in EXAMPLES:
            for at, part in enumerate(PARTS[record[0]], 1):
                if part is None:
                    fine = {"keep": ((), ("a", "b"), ("0", "0")), "turn": ((1,), (1, 0), (1, 0, 0), (0, 0)), "edit": ()}
                    wrong = [thing for thing in ANY_VALUES
                             if repr(thing) not in [repr(one) for one in fine[record[0]]]]
                else:
                    for good in part[0]:
                        self.assertIs(is_record(exchanged(record, at, good)), True, (record, at, good))
                    wrong = part[1] + ([], {}, ())
                for thing in wrong:
                    self.assertIs(is_record(exchanged(record, at, thing)), False, (record, at, thing))

    def test_rounds(self):
        def edit(*rounds):
            return is_record(("edit", 1, 0, tuple(rounds)))

        self.assertIs(edit(), False)
        self.assertIs(edit(()), False)
        self.assertIs(edit(((0, 0, "a"),), ()), False)
        self.assertIs(edit([(0, 0, "a")]), False)
        self.assertIs(is_record(("edit", 1, 0, [((0, 0, "a"),)])), False)
        self.assertIs(edit(([0, 0, "a"],)), False)
        self.assertIs(edit(((0, 0),)), False)
        self.assertIs(edit(((0, 0, "a", 1),)), False)
        for at, (good, wrong) in enumerate((NUMBERS, NUMBERS, TEXTS)):
            for thing in good:
                self.assertIs(edit(((1, 1, "b"), exchanged((0, 0, "a"), at, thing))), True)
            for thing in wrong:
                self.assertIs(edit(((1, 1, "b"), exchanged((0, 0, "a"), at, thing))), False)
                self.assertIs(edit(((1, 1, "b"),), (exchanged((0, 0, "a"), at, thing), (1, 1, "b"))), False)
        # Nothing more is asked: the splices need not be a round.
        self.assertIs(edit(((5, 0, ""), (2, 9, "x"))), True)
        self.assertIs(edit(*[((0, 0, "a"),) * 200] * 60), True)

    def test_deeds_and_rows(self):
        for thing in NUMBERS[1]:
            self.assertIs(is_record(("turn", 1, 0, (1, thing))), False)
        for thing in NUMBERS[0]:
            self.assertIs(is_record(("turn", 1, 0, (1, thing))), True)
        self.assertIs(is_record(("turn", 1, 0, ())), False)
        self.assertIs(is_record(("turn", 1, 0, [1])), False)
        for thing in TEXTS[1]:
            self.assertIs(is_record(("keep", "r", ("a", thing))), False)
        for thing in TEXTS[0]:
            self.assertIs(is_record(("keep", "r", ("a", thing))), True)
        self.assertIs(is_record(("keep", "r", ["a"])), False)
        self.assertIs(is_record(("keep", "r", "a")), False)
        self.assertIs(is_record(("keep", "r", ("",) * 500)), True)


class TestRows(unittest.TestCase):

    def test_examples(self):
        for record, row in EXAMPLES + MORE:
            self.assertEqual(row_of_record(record=record), row)
            self.assertEqual(record_of(row=row), record)
            self.assertEqual(plain_row(record), row)
            self.assertIs(is_record(record_of(row)), True)

    def test_there_and_back(self):
        rng = rng_for("records")
        for _ in range(30):
            for record in drawn_records(rng, 25):
                row = row_of_record(record)
                self.assertEqual((row, record_of(row), is_record(record)), (plain_row(record), record, True))

    def test_all_signs(self):
        for sign in ALPHABET:
            record = ("keep", "r", (sign, "a" + sign * 2))
            self.assertEqual(record_of(row_of_record(record)), record)
            record = ("edit", 1, 0, (((0, 0, sign),),))
            self.assertEqual(record_of(row_of_record(record)), record)

    def test_longest(self):
        record = ("edit", 1, 0, tuple(((k, 0, '"\\\n' * 20),) * 3 for k in range(60)))
        self.assertEqual(record_of(row_of_record(record)), record)
        record = ("keep", "r", ("\n" * 10,) * 200)
        self.assertEqual(record_of(row_of_record(record)), record)


# The kinds of words that may follow each beginning of a row, as an automaton: state -> {kind of word: next state}.
STEPS = {
    "begin": {"sheet": "name", "edit": "e1", "turn": "t1", "go": "g1", "mark": "m1", "unmark": "u1", "keep": "k1",
              "tie": "i1"},
    "name": {"NAME": "end"}, "end": {},
    "e1": {"BOOK": "e2"}, "e2": {"NUMBER": "e3"}, "e3": {"NUMBER": "e4"}, "e4": {"NUMBER": "e5"},
    "e5": {"TEXT": "more"},
    "more": {"JOIN": "e3"},
    "t1": {"BOOK": "t2"}, "t2": {"NUMBER": "t3"}, "t3": {"NUMBER": "t4"}, "t4": {"NUMBER": "t4"},
    "g1": {"BOOK": "g2"}, "g2": {"NUMBER": "end"},
    "m1": {"BOOK": "m2"}, "m2": {"NAME": "m3"}, "m3": {"NUMBER": "m4"}, "m4": {"NUMBER": "m5"}, "m5": {"SIDE": "end"},
    "u1": {"BOOK": "name"},
    "k1": {"NAME": "k2"}, "k2": {"TEXT": "k2"},
    "i1": {"BOOK": "i2"}, "i2": {"NAME": "i3"}, "i3": {"NUMBER": "i4"}, "i4": {"NUMBER": "end"},
}
ENDS = ("end", "more", "t4", "k2")


def kinds_of(state, word):
    """What a word may be taken for."""
    kind, told = word
    if state == "begin":
        return [told] if kind == "name" else []
    if kind == "number":
        return ["NUMBER"] + ["BOOK"] * (told > 0) + ["SIDE"] * (told < 2)
    if kind == "sign":
        return ["JOIN"] if told in (",", "/") else []
    return [kind.upper()]


def plain_fault(row):
    """The place of the first word that cannot stand, or the length, or None; BadLine of words_of passes."""
    words = words_of(row)
    at, state = 0, "begin"
    for word in words:
        fits = [kind for kind in kinds_of(state, word) if kind in STEPS[state]]
        if not fits:
            return at
        state = STEPS[state][fits[0]]
        # Words are of the lengths with which they are written.
        told = word[1] if word[0] != "text" else plain_row(("keep", "r", (word[1],)))[7:]
        at += len(str(told)) + 1
    return None if state in ENDS else len(row)


class TestBadRows(unittest.TestCase):

    def check(self, row):
        try:
            fault = plain_fault(row)
        except BadLine as error:
            fault = error.at
        if fault is None:
            self.assertEqual(row_of_record(record_of(row)), row)
        else:
            refused(self, BadLine, {"at": fault}, record_of, row)
        return fault

    def test_by_hand(self):
        for row, at in (("", 0), ("sheet", 5), ("sheet ", 6), ("sheet a b", 8), ("sheet 1", 6), ("sheets a", 0),
                        ("1", 0),
                        ('"sheet" a', 0), (",", 0), ("go 0 1", 3), ("go 1", 4), ("go 1 2 3", 7), ("go 1 a", 5),
                        ("mark 1 m 2 0 2", 13), ("mark 1 m 2 0 10", 13), ("mark 1 m 2 0", 12), ("turn 1 4", 8),
                        ("turn 1 4 ,", 9), ('edit 1 0 0 0 "a" ,', 18), ('edit 1 0 0 0 "a" ;', 17), ("edit 1 0", 8),
                        ('edit 1 0 0 0 "a" 1', 17), ('edit 1 0 , 0 0 "a"', 9), ('edit 1 0 0 0 "a" / / 1', 19),
                        ("keep", 4), ('keep "a"', 5), ("keep r a", 7), ('keep r "a" 1', 11), ("keep r  ", 7),
                        ("go  1 0", 3), (" go 1 0", 0), ("go 1 0 ", 7), ("go 01 0", 4), ("go 1 1234567890", 14),
                        ("tie 1 f 0", 9), ("tie 1 1 0 8", 6), ("unmark 1 m 0", 11), ("Go 1 0", 1), ("go 1,0", 4),
                        ("sheet a234567890123", 18), ("go 1 0\n", 6), ("go 1\n0", 4), ('keep r "a', 9)):
            self.assertEqual(self.check(row), at)
            refused(self, BadLine, {"at": at}, record_of, row)

    def test_every_beginning(self):
        rng = rng_for("rows")
        rows = [row for _, row in EXAMPLES + MORE] + [row_of_record(record) for record in drawn_records(rng, 40)]
        for row in rows:
            for end in range(len(row) + 1):
                self.check(row[:end])

    def test_changed_rows(self):
        rng = rng_for("changed rows")
        words = ["0", "1", "2", "17", "a", "go", "edit", "turn", '"x"', '""', ",", "/", "{", "", "01", "A", "sheet"]
        for row in [row for _, row in EXAMPLES + MORE]:
            parts = row.split(" ")
            for at in range(len(parts) + 1):
                for word in words:
                    self.check(" ".join(parts[:at] + [word] + parts[at:]))
                    self.check(" ".join(parts[:at] + [word] + parts[at + 1:]))
                self.check(" ".join(parts[:at] + parts[at + 1:]))
            for _ in range(40):
                at = rng.randint(0, len(row))
                self.check(row[:at] + rng.choice(ALPHABET) + row[at + rng.randint(0, 1):])


if __name__ == "__main__":
    unittest.main()
