"""The interface's part "Errors"."""

import unittest

from straightened import errors
from tests.helpers import Thing

BASES = {"BendError": ValueError, "MissingError": LookupError, "StateError": RuntimeError, "LimitError": ArithmeticError}

VALUE = [
    "InvalidChange", "InvalidDirection", "InvalidLetter", "InvalidLine", "InvalidMany", "InvalidNumber",
    "InvalidPoint", "InvalidPoly", "InvalidThread", "InvalidWord", "InvalidClaim", "InvalidCommand", "InvalidPaper",
    "InvalidPartner", "InvalidPoints", "InvalidRows", "InvalidShear", "InvalidStep", "InvalidThing",
]
POSITION = ["InvalidEntries", "InvalidItems", "InvalidLines"]
NOTHING = [
    "NoThread", "NotApart", "NotHalf", "NotStraight", "NotUndone", "NothingToRedo", "NothingToUndo", "NoughtLine",
    "NoughtPoly",
]

TABLE = {name: ("BendError", ["value"]) for name in VALUE}
TABLE.update({name: ("BendError", ["position"]) for name in POSITION})
TABLE.update({name: ("StateError", []) for name in NOTHING})
TABLE.update({
    "DividedByZero": ("BendError", []),
    "InvalidText": ("BendError", ["line"]),
    "UnknownLabel": ("MissingError", ["value"]),
    "UnknownName": ("MissingError", ["value"]),
    "CommandFailed": ("StateError", ["position"]),
    "LabelTaken": ("StateError", ["label"]),
    "NameTaken": ("StateError", ["name"]),
    "TooMany": ("LimitError", ["what", "limit"]),
})

ANY = [None, True, 0, -3, "x1", b"", [], [1, [2]], {}, Thing(), len]


class ErrorsTest(unittest.TestCase):
    def test_the_four_groups(self):
        for name in BASES:
            self.assertEqual(getattr(errors, name).__bases__, (BASES[name],))

    def test_each_has_the_one_direct_base(self):
        self.assertEqual(len(TABLE), 39)
        for name in TABLE:
            with self.subTest(name):
                found = getattr(errors, name)
                self.assertEqual(found.__name__, name)
                self.assertEqual(found.__module__, "straightened.errors")
                self.assertEqual(found.__bases__, (getattr(errors, TABLE[name][0]),))

    def test_no_other_class_stands_there(self):
        there = [name for name in vars(errors) if isinstance(getattr(errors, name), type)]
        self.assertEqual(sorted(there), sorted(list(TABLE) + list(BASES)))

    def test_attributes_are_what_was_passed_by_place(self):
        for name in TABLE:
            for value in ANY:
                with self.subTest(name, value=value):
                    self.check(name, getattr(errors, name)(*self.values(name, value).values()), value)

    def test_attributes_are_what_was_passed_by_name(self):
        for name in TABLE:
            for value in ANY:
                with self.subTest(name, value=value):
                    self.check(name, getattr(errors, name)(**self.values(name, value)), value)

    def values(self, name, value):
        """Unlike values for the parameters, so that none can stand for another one."""
        return {part: value if at == 0 else (at, value) for at, part in enumerate(TABLE[name][1])}

    def check(self, name, error, value):
        wanted = self.values(name, value)
        self.assertEqual(sorted(vars(error)), sorted(wanted))
        for part in wanted:
            self.assertTrue(getattr(error, part) == wanted[part])
            self.assertIs(getattr(error, part).__class__, wanted[part].__class__)
        str(error)

    def test_each_asks_for_just_its_parameters(self):
        for name in TABLE:
            many = len(TABLE[name][1])
            with self.subTest(name):
                with self.assertRaises(TypeError):
                    getattr(errors, name)(*[0] * (many + 1))
                if many > 0:
                    with self.assertRaises(TypeError):
                        getattr(errors, name)(*[0] * (many - 1))
