"""The classes of errors: families and fields (the interface, point 2)."""

import unittest

from duetimes import errors
from things import HUGE, Sore

FAMILIES = {"TimeError": ValueError, "LostError": LookupError, "FullError": ArithmeticError}

# Each class with its family and its fields.
CLASSES = {
    "NoTask": ("TimeError", ("part",)),
    "NoDoor": ("TimeError", ("part",)),
    "NoCrew": ("TimeError", ("name",)),
    "NoNumber": ("TimeError", ("number",)),
    "NoText": ("TimeError", ("row",)),
    "NoComings": ("TimeError", ("number",)),
    "NoWorks": ("TimeError", ("number",)),
    "NoDeeds": ("TimeError", ("number",)),
    "NoRun": ("TimeError", ()),
    "NoPlain": ("TimeError", ()),
    "NoMember": ("TimeError", ()),
    "NoRow": ("TimeError", ()),
    "NoName": ("LostError", ("name",)),
    "NoTool": ("LostError", ("tool",)),
    "TooMany": ("FullError", ("many", "most")),
    "TooMuch": ("FullError", ("share",)),
    "TooSoon": ("FullError", ("first",)),
    "Standing": ("FullError", ("name",)),
    "Busy": ("FullError", ("name",)),
    "Breaks": ("FullError", ("long", "comings")),
}


class Families(unittest.TestCase):
    def test_families_stand_under_one_error_of_python(self):
        for name, base in FAMILIES.items():
            family = getattr(errors, name)
            self.assertEqual(family.__bases__, (base,), name)
            self.assertEqual(family.__module__, "duetimes.errors")
            for other in FAMILIES.values():
                self.assertEqual(issubclass(family, other), other is base, name)

    def test_each_class_stands_under_its_family_and_no_other(self):
        for name, (own, fields) in CLASSES.items():
            for family, base in FAMILIES.items():
                found = getattr(errors, name)
                self.assertEqual(issubclass(found, getattr(errors, family)), family == own, (name, family))
                self.assertEqual(issubclass(found, base), family == own, (name, base))

    def test_no_class_stands_under_another_one(self):
        for name in CLASSES:
            for other in CLASSES:
                same = issubclass(getattr(errors, name), getattr(errors, other))
                self.assertEqual(same, name == other, (name, other))

    def test_each_class_is_defined_in_this_file(self):
        for name in CLASSES:
            self.assertEqual(getattr(errors, name).__module__, "duetimes.errors")
            self.assertEqual(getattr(errors, name).__name__, name)

    def test_there_are_no_other_classes(self):
        found = [name for name in vars(errors) if isinstance(getattr(errors, name), type)]
        self.assertEqual(sorted(found), sorted([*FAMILIES, *CLASSES]))


class Fields(unittest.TestCase):
    def test_fields_keep_what_they_are_told(self):
        for name, (family, fields) in CLASSES.items():
            worths = tuple([object() for field in fields])
            for made in (
                getattr(errors, name)(*worths),
                getattr(errors, name)(**dict(zip(fields, worths))),
            ):
                for field, worth in zip(fields, worths):
                    self.assertIs(getattr(made, field), worth, (name, field))

    def test_fields_are_set_on_each_object_and_are_its_only_ones(self):
        for name, (family, fields) in CLASSES.items():
            made = getattr(errors, name)(*fields)
            self.assertEqual(vars(made), {field: field for field in fields}, name)

    def test_an_error_can_be_written_out_whatever_its_fields_are(self):
        for name, (family, fields) in CLASSES.items():
            for thing in (HUGE, Sore()):
                made = getattr(errors, name)(*[thing for field in fields])
                self.assertIsInstance(str(made), str)
                self.assertIsInstance(repr(made), str)

    def test_all_can_be_raised_and_caught_by_their_family(self):
        for name, (family, fields) in CLASSES.items():
            with self.assertRaises(getattr(errors, family)) as caught:
                raise getattr(errors, name)(*fields)
            self.assertIsInstance(caught.exception, getattr(errors, name))
