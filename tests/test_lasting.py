"""[77] the lasting state: records let and refused, trials, plain; [9]."""

import unittest

from deedstand.errors import BadSplice, NoSuch, Taken, TooMuch, Unsettled
from deedstand.lastingstate import Lasting
from deedstand.openings import opened
from deedstand.sheets import Sheet
from tests.recordways import drawn_record, drawn_records
from tests.test_sheets import refused
from tests.ways import rng_for

AB_RECORDS = (("sheet", "s"), ("edit", 1, 0, (((0, 0, "ab"),),)), ("edit", 1, 1, (((1, 1, ""),),)),
              ("edit", 1, 2, (((1, 0, "X"),),)))


def state_of(lasting):
    """All that can be seen of a lasting state."""
    sheets = [(sheet.plain(), sheet.text(), sheet.standing(), sheet.cuts,
               sheet.mark_places()) for sheet in lasting.sheets]
    return (lasting.plain(), repr(sheets), dict(lasting.registers), lasting.moment)


class TestTell(unittest.TestCase):

    def let(self, lasting, *records):
        for record in records:
            before = lasting.moment
            self.assertIsNone(lasting.tell(record))
            self.assertEqual(lasting.moment, before + 1)

    def refuse(self, lasting, error, fields, record):
        before = state_of(lasting)
        refused(self, error, fields, lasting.tell, record)
        self.assertEqual(state_of(lasting), before)

    def test_new(self):
        lasting = Lasting()
        self.assertEqual((lasting.sheets, lasting.registers, lasting.moment), ([], {}, 0))
        self.assertEqual(lasting.plain(), (0, (), ()))

    def test_sheets(self):
        lasting = Lasting()
        lasting.tell(record=("sheet", "a"))
        self.refuse(lasting, Taken, {"name": "a"}, ("sheet", "a"))
        self.let(lasting, *[("sheet", "b" + str(k)) for k in range(7)])
        self.assertEqual([sheet.name for sheet in lasting.sheets], ["a"] + ["b" + str(k) for k in range(7)])
        for sheet in lasting.sheets:
            self.assertIs(type(sheet), Sheet)
            self.assertEqual(sheet.plain(), Sheet(sheet.name).plain())
        self.refuse(lasting, TooMuch, {"what": "sheets"}, ("sheet", "c"))
        self.refuse(lasting, Taken, {"name": "a"}, ("sheet", "a"))

    def test_no_such_sheet(self):
        lasting = opened(AB_RECORDS)
        for b in (2, 3, 9, 10 ** 9 - 1):
            for record in (("edit", b, 9, ()), ("turn", b, 9, ()), ("go", b, 9), ("mark", b, "m", 9, 9, 0),
                           ("unmark", b, "m"), ("tie", b, "f", 0, 0)):
                self.refuse(lasting, NoSuch, {"what": "sheet", "name": b}, record)

    def test_edits(self):
        lasting = opened(AB_RECORDS)
        sheet = lasting.sheets[0]
        self.assertEqual((sheet.text(), sheet.place, len(sheet.nodes)), ("aX", 3, 4))
        self.refuse(lasting, NoSuch, {"what": "node", "name": 4}, ("edit", 1, 4, ()))
        self.refuse(lasting, BadSplice, {"at": -1}, ("edit", 1, 3, ()))
        self.refuse(lasting, BadSplice, {"at": 0}, ("edit", 1, 0, (((0, 1, "x"),),)))
        self.refuse(lasting, BadSplice, {"at": 1}, ("edit", 1, 3, (((1, 0, "x"), (0, 0, "y")),)))
        self.refuse(lasting, TooMuch, {"what": "rounds"}, ("edit", 1, 3, (((0, 0, "x"),),) * 61))
        self.refuse(lasting, TooMuch, {"what": "splices"}, ("edit", 1, 3, (((0, 0, "x"),) * 201,)))
        self.refuse(lasting, TooMuch, {"what": "text"}, ("edit", 1, 3, (((0, 0, "x" * 3999),),)))
        self.let(lasting, ("edit", 1, 1, (((2, 0, "c"),),)))
        self.assertEqual((sheet.text(), sheet.parent(4)), ("abc", 1))

    def test_turns(self):
        lasting = opened(AB_RECORDS)
        sheet = lasting.sheets[0]
        self.refuse(lasting, NoSuch, {"what": "node", "name": 9}, ("turn", 1, 9, (9,)))
        self.refuse(lasting, NoSuch, {"what": "deed", "name": 9}, ("turn", 1, 1, (1, 9)))
        self.refuse(lasting, NoSuch, {"what": "deed", "name": 2}, ("turn", 1, 1, (2, 2)))
        before = state_of(lasting)
        for place in (3, 1):
            lasting.sheets[0].go(place)
            before = state_of(lasting)
            with self.assertRaises(Unsettled) as caught:
                lasting.tell(("turn", 1, 3, (2,)))
            self.assertEqual({caught.exception.one, caught.exception.other}, {(1, 1), (2, 0)})
            # The sheet stays where it was, not at the node of the record.
            self.assertEqual(state_of(lasting), before)
        self.let(lasting, ("turn", 1, 3, (1,)))
        self.assertEqual((sheet.text(), sheet.place, sheet.nodes[4]), ("X", 4, ("turn", 3, (1,))))
        # It goes to the parent first.
        self.let(lasting, ("turn", 1, 0, (3,)))
        self.assertEqual((sheet.text(), sheet.place, sheet.nodes[5]), ("X", 5, ("turn", 0, (3,))))
        self.assertEqual(sheet.standing(), (3,))

    def test_full_sheet(self):
        lasting = opened((("sheet", "s"),) + tuple(("edit", 1, k, (((0, 0, "x"),),)) for k in range(299)))
        self.refuse(lasting, TooMuch, {"what": "nodes"}, ("edit", 1, 0, (((0, 0, "x"),),)))
        self.refuse(lasting, TooMuch, {"what": "nodes"}, ("turn", 1, 0, (1,)))
        self.refuse(lasting, NoSuch, {"what": "deed", "name": 300}, ("turn", 1, 0, (300,)))

    def test_goes_marks_ties(self):
        lasting = opened(AB_RECORDS)
        sheet = lasting.sheets[0]
        self.refuse(lasting, NoSuch, {"what": "node", "name": 4}, ("go", 1, 4))
        self.let(lasting, ("go", 1, 0), ("go", 1, 2))
        self.assertEqual(sheet.place, 2)
        self.refuse(lasting, NoSuch, {"what": "sign", "name": 3}, ("mark", 1, "m", 3, 0, 0))
        self.refuse(lasting, NoSuch, {"what": "sign", "name": 2}, ("mark", 1, "m", 2, 1, 0))
        self.let(lasting, ("mark", 1, "m", 1, 1, 1), ("mark", 1, "n", 0, 1, 0), ("mark", 1, "m", 2, 0, 0))
        self.assertEqual(sheet.marks, {"m": (2, 0, 0), "n": (0, 1, 0)})
        self.refuse(lasting, NoSuch, {"what": "mark", "name": "o"}, ("unmark", 1, "o"))
        self.let(lasting, ("unmark", 1, "m"))
        self.assertEqual(sheet.marks, {"n": (0, 1, 0)})
        self.let(lasting, *[("mark", 1, "m" + str(k), 1, 0, 0) for k in range(39)])
        self.refuse(lasting, TooMuch, {"what": "marks"}, ("mark", 1, "o", 1, 0, 0))
        self.let(lasting, ("mark", 1, "n", 1, 0, 0), ("tie", 1, "f", 3, 8), ("tie", 1, "g", 0, 2))
        self.assertEqual(sheet.tie, ("g", 0, 2))

    def test_registers(self):
        lasting = Lasting()
        self.let(lasting, ("keep", "r", ("a", "")), ("keep", "r", ("b\n",)), ("keep", "q", ()))
        self.assertEqual((lasting.registers, lasting.moment), ({"r": ("b\n",)}, 3))
        self.let(lasting, ("keep", "r", ()), ("keep", "r", ()))
        self.assertEqual(lasting.registers, {})
        for rows in (("",) * 200, ("x" * 10,) * 200, ("x" * 2000,), ("x" * 1999, "\n")):
            self.let(lasting, ("keep", "r", rows))
            self.assertEqual(lasting.registers, {"r": rows})
        for rows in (("",) * 201, ("x" * 10,) * 200 + ("",), ("x" * 2001,), ("x" * 2000, "\n"), ("x",) * 201):
            self.refuse(lasting, TooMuch, {"what": "register"}, ("keep", "r", rows))
        self.let(lasting, *[("keep", "k" + str(k), ("x",)) for k in range(29)])
        self.refuse(lasting, TooMuch, {"what": "registers"}, ("keep", "z", ("x",)))
        self.refuse(lasting, TooMuch, {"what": "register"}, ("keep", "z", ("x" * 2001,)))
        # A register that is there gets new rows, and one that is not is taken away, also at the limit.
        self.let(lasting, ("keep", "r", ("y",)), ("keep", "z", ()), ("keep", "k3", ()), ("keep", "z", ("x",)))
        self.assertEqual(len(lasting.registers), 30)
        self.refuse(lasting, TooMuch, {"what": "registers"}, ("keep", "k3", ("x",)))

    def test_plain(self):
        lasting = opened(AB_RECORDS + (("keep", "z", ("a",)), ("sheet", "t"), ("keep", "b", ("c", "")),
                                       ("tie", 1, "f", 1, 2),
                                       ("mark", 1, "m", 1, 1, 1)))
        one, other = [sheet.plain() for sheet in lasting.sheets]
        self.assertEqual(lasting.plain(), (9, (one, other), (("b", ("c", "")), ("z", ("a",)))))
        self.assertEqual((one[0], one[4], one[5], other), ("s", (("m", (1, 1, 1)),), ("f", 1, 2), Sheet("t").plain()))
        self.assertTrue(all(type(part) is tuple for part in lasting.plain()[1:]))

    def test_trials(self):
        rng = rng_for("trials of states")
        for _ in range(30):
            lasting = opened(drawn_records(rng, 15))
            before, trial = state_of(lasting), lasting.trial()
            self.assertIs(type(trial), Lasting)
            self.assertEqual(state_of(trial), before)
            for _ in range(8):
                record = drawn_record(rng, trial)
                try:
                    trial.tell(record)
                except (NoSuch, Taken, TooMuch, Unsettled):
                    pass
            self.assertEqual(state_of(lasting), before)
            other, after = trial.trial(), state_of(trial)
            self.let(lasting, ("keep", "zz", ("x",)))
            self.let(lasting, ("tie", 1, "zz", 5, 6))
            self.assertEqual((state_of(trial), state_of(other)), (after, after))

    def test_moment_alone(self):
        # What a record does depends on the record and the state ahead of it alone.
        rng = rng_for("moments")
        records = drawn_records(rng, 30)
        one, other = opened(records), opened(records, moment=70)
        self.assertEqual((one.plain()[1:], other.moment), (other.plain()[1:], 100))
        for record in drawn_records(rng, 1):
            for lasting in (one, other):
                try:
                    lasting.tell(record)
                except Taken:
                    pass
        self.assertEqual(one.plain()[1:], other.plain()[1:])


if __name__ == "__main__":
    unittest.main()
