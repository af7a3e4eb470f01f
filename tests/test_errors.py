"""Promise [2]: the errors."""

import inspect
import unittest

from partstell import errors
from partstell.errors import PartError

FIELDS = {
    "NoName": ("name",),
    "NoRatio": ("word",),
    "NoSpace": ("place", "word"),
    "NoCell": ("cell",),
    "NoAxis": ("axis",),
    "NoMember": ("member",),
    "Twice": ("name",),
    "OtherSpace": (),
    "NoTable": ("place", "word"),
    "NoRows": ("cell", "value"),
    "NoLinear": ("word",),
    "NoQuotient": (),
    "NoPart": (),
    "Full": ("number",),
    "NoSuch": ("name",),
    "NoValues": ("name",),
    "NoOffer": ("place", "word"),
    "NoAsked": ("place", "word"),
    "NoTaking": ("name",),
    "NoMeasure": (),
    "NotExtreme": ("name",),
    "NotConsistent": (),
    "NoKind": ("kind",),
    "NoRoll": (),
    "BadText": ("place",),
    "BadLine": ("line", "place"),
    "NoCommand": ("place",),
    "NoUndo": (),
    "NoRedo": (),
}


def class_of(name):
    return getattr(errors, name)


class Errors(unittest.TestCase):
    def test_there_are_just_these_classes(self):
        found = [name for name, thing in vars(errors).items() if inspect.isclass(thing)]
        self.assertEqual(sorted(found), sorted(["PartError", *FIELDS]))

    def test_each_stands_in_the_file_of_errors(self):
        for name in ["PartError", *FIELDS]:
            self.assertEqual(class_of(name).__module__, "partstell.errors")
            self.assertEqual(class_of(name).__name__, name)

    def test_the_base_derives_from_value_error(self):
        self.assertEqual(PartError.__bases__, (ValueError,))

    def test_each_derives_directly_from_the_base(self):
        for name in FIELDS:
            self.assertEqual(class_of(name).__bases__, (PartError,), name)

    def test_each_tells_itself(self):
        for name, fields in FIELDS.items():
            error = class_of(name)(*[object() for field in fields])
            self.assertEqual(error.told(), "refused " + name.lower())
            self.assertIn("told", vars(class_of(name)))

    def test_the_base_tells_itself(self):
        self.assertEqual(PartError().told(), "refused parterror")
        self.assertEqual(PartError("why").told(), "refused parterror")
        self.assertIn("told", vars(PartError))

    def test_told_by_its_words(self):
        self.assertEqual(errors.NoRatio("zero").told(), "refused noratio")
        self.assertEqual(errors.OtherSpace().told(), "refused otherspace")
        self.assertEqual(errors.NotConsistent().told(), "refused notconsistent")

    def test_fields_are_the_very_values_in_the_order_of_the_arguments(self):
        for name, fields in FIELDS.items():
            values = [[place] for place in range(len(fields))]
            error = class_of(name)(*values)
            for field, value in zip(fields, values):
                self.assertIs(getattr(error, field), value, (name, field))

    def test_fields_by_their_names(self):
        for name, fields in FIELDS.items():
            values = {field: [field] for field in fields}
            error = class_of(name)(**values)
            for field in fields:
                self.assertIs(getattr(error, field), values[field], (name, field))

    def test_arguments_are_asked_for(self):
        for name, fields in FIELDS.items():
            if fields:
                with self.assertRaises(TypeError):
                    class_of(name)(*fields[1:])
                with self.assertRaises(TypeError):
                    class_of(name)(*fields, "more")

    def test_a_list_in_an_error_stays_the_list(self):
        given = ["x"]
        error = errors.NoCell(given)
        given.append("y")
        self.assertEqual(error.cell, ["x", "y"])

    def test_any_value_is_kept(self):
        huge = 10 ** 6000
        for value in (None, True, huge, "", b"x", (), {}, object(), errors.NoCell):
            self.assertIs(errors.NoCell(value).cell, value)
            self.assertIs(errors.BadLine(0, value).place, value)

    def test_each_is_caught_as_the_base_and_as_value_error(self):
        for name, fields in FIELDS.items():
            for caught in (PartError, ValueError, class_of(name)):
                with self.assertRaises(caught):
                    raise class_of(name)(*fields)

    def test_one_is_not_caught_as_another(self):
        self.assertNotIsInstance(errors.NoAxis("a"), errors.NoMember)
        self.assertNotIsInstance(errors.NoCell("a"), errors.NoRows)


if __name__ == "__main__":
    unittest.main()
