"""Tests of promise [5]."""

import unittest

from floorwalks import errors

VALUE_ERRORS = ["InvalidNumber", "InvalidList", "InvalidItem", "InvalidProgram", "InvalidRow", "InvalidText"]
NAME_ERRORS = ["InvalidName", "TakenName", "UnknownName"]


class ErrorTests(unittest.TestCase):
    def check_field(self, name, field):
        made = getattr(errors, name)
        held = [1, (2, {"a": None})]
        self.assertIs(getattr(made(held), field), held)
        self.assertIs(getattr(made(**{field: held}), field), held)
        self.assertIsNone(getattr(made(), field))
        self.assertIsNone(getattr(made(None), field))
        for value in [None, True, 0, -10 ** 40, "x", [], (), {}, ((1,),), made()]:
            self.assertIs(getattr(made(value), field), value)

    def test_fields(self):
        for name in VALUE_ERRORS:
            with self.subTest(name):
                self.check_field(name, "value")
        for name in NAME_ERRORS:
            with self.subTest(name):
                self.check_field(name, "name")

    def test_what_they_are_derived_from(self):
        self.assertEqual(errors.WalkError.__bases__, (ValueError,))
        for name in VALUE_ERRORS + NAME_ERRORS + ["NothingToUndo"]:
            self.assertEqual(getattr(errors, name).__bases__, (errors.WalkError,), name)
            self.assertEqual(getattr(errors, name).__module__, "floorwalks.errors")

    def test_without_fields(self):
        for made in [errors.WalkError, errors.NothingToUndo]:
            with self.assertRaises(ValueError):
                raise made()

    def test_they_are_raised_and_told_apart(self):
        for name in VALUE_ERRORS + NAME_ERRORS:
            made = getattr(errors, name)
            with self.assertRaises(made) as caught:
                raise made("x")
            self.assertIs(caught.exception.__class__, made)
            self.assertIsInstance(str(caught.exception), str)
