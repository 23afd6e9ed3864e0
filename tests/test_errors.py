"""The error classes of the interface: what they stand under, and their fields."""

import inspect
import unittest

from leasepair import errors

TOLD = {
    "NoPool": (ValueError, ("at",)),
    "NoPlace": (IndexError, ("place", "many")),
    "NoNumber": (LookupError, ("number",)),
    "NoShare": (ValueError, ()),
    "NoText": (ValueError, ()),
    "NoLetter": (ValueError, ("field",)),
    "NoBytes": (ValueError, ()),
    "NoPath": (LookupError, ("name",)),
    "TooFar": (OverflowError, ("most",)),
    "NoClock": (ArithmeticError, ("asked", "slack")),
    "NoSetting": (ValueError, ("name",)),
    "NoDeed": (RuntimeError, ("word",)),
    "NoEvent": (ValueError, ()),
    "NoName": (KeyError, ("name",)),
    "NoRun": (RuntimeError, ("at",)),
    "NoWorld": (ValueError, ()),
    "NoRow": (ValueError, ()),
    "TooMany": (OverflowError, ("most",)),
}


class ErrorClasses(unittest.TestCase):

    def test_each_stands_straight_under_its_class(self):
        for name, (base, fields) in TOLD.items():
            with self.subTest(name=name):
                self.assertEqual(getattr(errors, name).__bases__, (base,))

    def test_each_is_defined_in_errors(self):
        for name in TOLD:
            with self.subTest(name=name):
                self.assertEqual(getattr(errors, name).__module__, "leasepair.errors")

    def test_there_are_no_others(self):
        found = [name for name, thing in vars(errors).items() if inspect.isclass(thing)]
        self.assertEqual(sorted(found), sorted(TOLD))

    def test_fields_are_set_when_it_is_made(self):
        for name, (base, fields) in TOLD.items():
            values = [f"value {place}" for place in range(len(fields))]
            made = getattr(errors, name)(*values)
            with self.subTest(name=name):
                self.assertEqual([getattr(made, field) for field in fields], values)
                self.assertEqual(vars(made), dict(zip(fields, values)))

    def test_each_is_raised_and_has_a_truth(self):
        for name, (base, fields) in TOLD.items():
            with self.subTest(name=name):
                with self.assertRaises(base) as caught:
                    raise getattr(errors, name)(*[None] * len(fields))
                self.assertTrue(caught.exception)


if __name__ == "__main__":
    unittest.main()
