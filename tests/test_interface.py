"""The interface: names, arguments, and the file in which each stands."""

import ast
import inspect
import pathlib
import unittest

import partstell
from partstell.ratios import Ratio
from partstell.regions import Region
from partstell.spaces import Space

# For each class its arguments, and the arguments of each listed method.
CLASSES = {
    Ratio: ("(top, bottom=1)", {
        "over": "(self, number)", "power": "(self, k)", "text": "(self)", "read": "(text)",
    }),
    Region: ("(space, cells)", {"groups": "(self, axes)"}),
    Space: ("(axes)", {
        "place_of": "(self, cell)", "where": "(self, axis, members)", "whole": "(self)", "empty": "(self)",
    }),
}
FILES = {Ratio: "partstell.ratios", Region: "partstell.regions", Space: "partstell.spaces"}
FIELDS = {
    Ratio: (Ratio(1), ("top", "bottom")),
    Region: (Space([("a", ["x"])]).whole(), ("space", "cells")),
    Space: (Space([("a", ["x"])]), ("axes", "cells")),
}


class Interface(unittest.TestCase):
    def test_where_each_class_stands(self):
        for kind, file in FILES.items():
            self.assertEqual(kind.__module__, file)

    def test_arguments(self):
        for kind, (arguments, methods) in CLASSES.items():
            self.assertEqual(str(inspect.signature(kind)), arguments)
            for name, told in methods.items():
                self.assertIn(name, vars(kind))
                method = vars(kind)[name]
                if isinstance(method, staticmethod):
                    method = method.__func__
                self.assertEqual(str(inspect.signature(method)), told, name)

    def test_fields_are_set_on_each_object(self):
        for made, fields in FIELDS.values():
            for field in fields:
                self.assertIn(field, vars(made))

    def test_no_class_derives_from_another(self):
        for kind in CLASSES:
            self.assertEqual(kind.__bases__, (object,))

    def test_nothing_is_imported_from_outside_the_package(self):
        for file in pathlib.Path(partstell.__file__).parent.glob("*.py"):
            for node in ast.walk(ast.parse(file.read_text())):
                self.assertNotIsInstance(node, ast.Import, file)
                if isinstance(node, ast.ImportFrom):
                    self.assertEqual(node.level, 0, file)
                    self.assertIn(node.module.split(".")[0], ("partstell", "__future__"), file)


if __name__ == "__main__":
    unittest.main()
