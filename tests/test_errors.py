"""Errors: their classes, bases and fields (0.3)."""

import unittest

from lastoflot import errors
from tests.plain import Checks, strange

FIELDS = {
    "BadBook": ("part", "at"), "BadOffice": ("part",), "BadKinds": ("part", "at"), "BadText": ("line",),
    "TooMany": ("most",), "NoName": ("name",),
}
PLAIN = (
    "NoPeople NoHeaps NoCrowd NoRules NoPerson OtherPeople OtherBook OtherKinds NoPlace NoNumber NoList NoTable "
    "NoPair NoRow NoSightings NoChooser NotSteady NoCrowds NoState NoLooks NoKinds NoKind NoHalls NoLot IsThere "
    "NotThere NothingDone NoLine"
).split()


class ErrorTest(Checks, unittest.TestCase):
    def test_base(self):
        self.assertEqual(errors.LotError.__bases__, (ValueError,))

    def test_bases_of_all(self):
        for name in [*FIELDS, *PLAIN]:
            kind = getattr(errors, name)
            self.assertEqual(kind.__bases__, (errors.LotError,), name)
            self.assertEqual((kind.__name__, kind.__module__), (name, "lastoflot.errors"))

    def test_without_fields(self):
        for name in PLAIN:
            with self.assertRaises(errors.LotError) as caught:
                raise getattr(errors, name)()
            self.assertEqual(vars(caught.exception), {}, name)

    def test_fields(self):
        for name, fields in FIELDS.items():
            for thing in strange():
                values = [thing, *range(1, len(fields))]
                error = getattr(errors, name)(*values)
                self.assertEqual(list(vars(error)), list(fields), name)
                for field, value in zip(fields, values):
                    self.assertIs(getattr(error, field), value)

    def test_second_field(self):
        for kind in (errors.BadBook, errors.BadKinds):
            error = kind("lots", 7)
            self.assertEqual((error.part, error.at), ("lots", 7))

    def test_no_other_classes(self):
        own = [name for name, thing in vars(errors).items() if isinstance(thing, type)]
        self.assertEqual(sorted(own), sorted(["LotError", *FIELDS, *PLAIN]))
