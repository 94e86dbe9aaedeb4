"""The beginning of the interface: the fifteen errors."""

import unittest

from deedstand import errors

FIELDS = {
    "BadText": ("at",), "BadPlace": ("at",), "BadSplice": ("at",), "BadLine": ("at",), "BadPattern": ("at",),
    "BadBook": ("line",), "BadRoll": ("row",), "NoSuch": ("what", "name"), "Taken": ("name",),
    "Unsettled": ("one", "other"), "Elder": ("name",), "Full": (), "TooMuch": ("what",), "BadDisk": ("block",),
    "Halt": (),
}


class TestErrors(unittest.TestCase):

    def test_bases(self):
        self.assertEqual(errors.DeskError.__bases__, (ValueError,))
        for name in FIELDS:
            self.assertEqual(getattr(errors, name).__bases__, (errors.DeskError,))

    def test_there_are_no_others(self):
        found = {name for name, thing in vars(errors).items() if isinstance(thing, type)}
        self.assertEqual(found, set(FIELDS) | {"DeskError"})

    def test_fields_by_position_and_by_name(self):
        for name, fields in FIELDS.items():
            kind = getattr(errors, name)
            worth = [("any", [k]) for k in range(len(fields))]
            for error in (kind(*worth), kind(**dict(zip(fields, worth)))):
                self.assertEqual(vars(error), dict(zip(fields, worth)))
                for field, kept in zip(fields, worth):
                    self.assertIs(getattr(error, field), kept)

    def test_exactly_these_fields(self):
        for name, fields in FIELDS.items():
            kind = getattr(errors, name)
            with self.assertRaises(TypeError):
                kind(*range(len(fields) + 1))
            if fields:
                with self.assertRaises(TypeError):
                    kind(*range(len(fields) - 1))

    def test_word(self):
        for name, fields in FIELDS.items():
            self.assertEqual(getattr(errors, name)(*fields).word(), name)
        self.assertEqual(errors.DeskError().word(), "DeskError")

    def test_raised_and_caught(self):
        with self.assertRaises(ValueError) as caught:
            raise errors.NoSuch("node", 3)
        self.assertEqual((caught.exception.what, caught.exception.name), ("node", 3))


if __name__ == "__main__":
    unittest.main()
