"""The error classes: their fields and what they are derived from."""

import unittest

from listandpage import errors
from listandpage.schemas import Schema

FIELDS = {
    "BadSchema": ("table", "column"),
    "BadLine": ("line",),
    "BadStore": ("table", "at", "column"),
    "Dangling": ("table", "at", "column"),
    "BadQuestion": ("at",),
    "BadCheck": ("line", "at"),
    "InBook": ("name", "line", "at"),
    "BadMend": ("at",),
    "BadKind": ("name",),
    "BadName": ("name",),
    "Mismatch": ("at",),
    "TooMany": ("what",),
    "NoName": ("name",),
    "NoRow": ("table", "at"),
}
VALUES = (0, -1, 10 ** 39, True, None, "", "team", [], [1, ["a"]], (), ("flag", "x"), {}, {"a": 1},
          Schema("a", [("a", [])]))


def classes():
    """Every error class defined in the module, by its name."""
    found = {}
    for name, value in vars(errors).items():
        if isinstance(value, type):
            found[name] = value
    return found


class ErrorTest(unittest.TestCase):
    def test_all_are_there_and_no_others(self):
        self.assertEqual(set(classes()), set(FIELDS) | {"ListandpageError"})
        for name, made in classes().items():
            self.assertEqual(made.__module__, "listandpage.errors", name)

    def test_bases_are_exactly_those_listed(self):
        self.assertEqual(errors.ListandpageError.__bases__, (ValueError,))
        for name in FIELDS:
            base = LookupError if name in ("NoName", "NoRow") else errors.ListandpageError
            self.assertEqual(classes()[name].__bases__, (base,), name)

    def test_fields_by_position(self):
        for name, fields in FIELDS.items():
            for start in range(len(VALUES)):
                values = [VALUES[(start + k) % len(VALUES)] for k in range(len(fields))]
                error = classes()[name](*values)
                for field, value in zip(fields, values):
                    self.assertIs(getattr(error, field), value, name)

    def test_fields_by_name_in_any_order(self):
        for name, fields in FIELDS.items():
            told = {field: [field] for field in reversed(fields)}
            error = classes()[name](**told)
            for field in fields:
                self.assertIs(getattr(error, field), told[field], name)

    def test_as_many_fields_as_listed(self):
        for name, fields in FIELDS.items():
            for count in (len(fields) - 1, len(fields) + 1):
                with self.assertRaises(TypeError):
                    classes()[name](*range(count))

    def test_they_are_raised_and_caught(self):
        for name, fields in FIELDS.items():
            with self.assertRaises(classes()[name]) as caught:
                raise classes()[name](*fields)
            self.assertEqual(isinstance(caught.exception, ValueError), name not in ("NoName", "NoRow"))
            self.assertEqual(isinstance(caught.exception, LookupError), name in ("NoName", "NoRow"))
