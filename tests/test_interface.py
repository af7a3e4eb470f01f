"""The interface: names, arguments, and the file in which each stands."""

import ast
import importlib
import inspect
import pathlib
import unittest

import partstell
from partstell.choosing import Evidence
from partstell.desk import Desk
from partstell.linear import count_of
from partstell.measures import Greatest, Least, Spread, Variance, mean_of
from partstell.offers import Offer
from partstell.ratios import Ratio
from partstell.spaces import Space
from partstell.stores import Store
from partstell.tables import Table
from partstell.ways import Twins, Way

ORDER = ("__lt__", "__le__", "__gt__", "__ge__")
SPACE = Space([("a", ["x"])])
WHOLE = SPACE.whole()

# For each file its classes: the arguments, the listed methods with theirs, the operators and
# the like that the class itself defines, and an object with the listed fields.
CLASSES = {
    "ratios": {
        "Ratio": (
            "(top, bottom=1)",
            {"over": "(self, number)", "power": "(self, k)", "text": "(self)", "read": "(text)"},
            (
                "__add__", "__radd__", "__sub__", "__rsub__", "__mul__", "__rmul__", "__floordiv__", "__rfloordiv__",
                "__mod__", "__rmod__", "__neg__", "__pos__", "__abs__", "__pow__", "__eq__", *ORDER,
            ),
            Ratio(1), ("top", "bottom"),
        ),
    },
    "regions": {
        "Region": (
            "(space, cells)", {"groups": "(self, axes)"},
            (
                "__and__", "__or__", "__sub__", "__xor__", "__invert__", "__len__", "__contains__", "__eq__", *ORDER,
            ),
            WHOLE, ("space", "cells"),
        ),
    },
    "spaces": {
        "Space": (
            "(axes)",
            {"place_of": "(self, cell)", "where": "(self, axis, members)", "whole": "(self)", "empty": "(self)"},
            ("__eq__",), SPACE, ("axes", "cells"),
        ),
    },
    "tables": {
        "Table": (
            "(space, rows=())",
            {
                "size": "(self)", "each_row": "(self)", "put": "(self, cell, value, *, times=1)",
                "without": "(self, cell, value, *, times=1)",
            },
            ("__getitem__", "__len__", "__add__", "__eq__"), Table(SPACE), ("space", "rows"),
        ),
    },
    "linear": {
        "Linear": (
            "(space, counts, sums, squares)", {"over": "(self, number)"},
            ("__call__", "__add__", "__sub__", "__neg__", "__mul__", "__rmul__", "__eq__"),
            count_of(WHOLE), ("space", "counts", "sums", "squares"),
        ),
    },
    "measures": {
        "Least": ("(region)", {}, ("__call__", "__eq__"), Least(WHOLE), ("region", "space")),
        "Greatest": ("(region)", {}, ("__call__", "__eq__"), Greatest(WHOLE), ("region", "space")),
        "Spread": ("(region)", {}, ("__call__", "__eq__"), Spread(WHOLE), ("region", "space")),
        "Variance": ("(region)", {}, ("__call__", "__eq__"), Variance(WHOLE), ("region", "space")),
        "Quotient": ("(top, bottom)", {}, ("__call__", "__eq__"), mean_of(WHOLE), ("top", "bottom", "space")),
    },
    "stores": {
        "Store": (
            "(space)",
            {"drop": "(self, name)", "names": "(self)", "copy": "(self)", "part_values": "(self, table)"},
            ("__getitem__", "__setitem__", "__contains__", "__len__", "__eq__", *ORDER), Store(SPACE), ("space",),
        ),
    },
    "ways": {
        "Way": (
            "(measure, pieces)", {"answer": "(self, values)"}, ("__eq__", "used"),
            Way(count_of(WHOLE), {}), ("measure", "pieces"),
        ),
        "Twins": ("(one, other)", {}, ("__eq__",), Twins(Table(SPACE), Table(SPACE)), ("one", "other")),
    },
    "offers": {
        "Offer": (
            "(space, rows)", {"store_of": "(self, names)", "total": "(self, names)"}, (),
            Offer(SPACE, [("n", count_of(WHOLE), 1)]), ("space", "rows"),
        ),
    },
    "choosing": {
        "Evidence": ("(lacks, leaks, hides)", {}, (), Evidence((), (), ()), ("lacks", "leaks", "hides")),
    },
    "desk": {
        "Desk": (
            "(space)",
            {
                "tell": "(self, line)", "rehearse": "(self, lines)", "store_now": "(self)", "table_now": "(self)",
                "journal": "(self)",
            },
            (), Desk(SPACE), (),
        ),
    },
}
FUNCTIONS = {
    "linear": {"count_of": "(region)", "sum_of": "(region)", "squares_of": "(region)"},
    "measures": {"mean_of": "(region)"},
    "telling": {
        "tells": "(store, measure)", "trimmed": "(store)", "way_of": "(store, measure)",
        "twins_of": "(store, measure)", "check_way": "(store, measure, candidate)",
        "check_twins": "(store, measure, candidate)",
    },
    "compared": {
        "alike": "(one, other)", "parting": "(one, other)", "joined": "(one, other)", "needless": "(store)",
    },
    "choosing": {"cheapest": "(offer, asked, *, hidden=())", "evidence": "(offer, asked, *, hidden=())"},
    "judging": {
        "check_cheapest": "(offer, asked, answer, found, *, hidden=())",
        "check_most_shown": "(offer, hidden, answer, found)",
    },
    "showing": {"most_shown": "(offer, hidden)", "show_evidence": "(offer, hidden)"},
    "kept": {
        "merged": "(store, values, more)", "after_put": "(store, values, cell, value, *, times=1)",
        "after_taken": "(store, values, cell, value, *, times=1)", "taking_twins": "(store)",
        "merge_twins": "(measure)",
    },
    "leftopen": {
        "consistent": "(store, values)", "left": "(store, values, measure)", "settled": "(store, values, measure)",
        "left_tables": "(store, values, measure)",
    },
    "grouped": {
        "grouped": "(space, kind, axes, *, within=None)", "rolls_up": "(space, stored, axes)",
        "rolled": "(space, kind, fine, coarse, values)",
    },
    "texts": {
        "measure_text": "(measure)", "read_measure": "(space, text)", "store_text": "(store)",
        "read_store": "(space, lines)", "table_text": "(table)", "read_table": "(space, lines)",
    },
}


def module_of(file):
    return importlib.import_module(f"partstell.{file}")


def each_class():
    for file, classes in CLASSES.items():
        for name, told in classes.items():
            yield file, getattr(module_of(file), name), told


class Interface(unittest.TestCase):
    def test_where_each_class_stands(self):
        for file, kind, told in each_class():
            self.assertTrue(inspect.isclass(kind))
            self.assertEqual(kind.__module__, f"partstell.{file}")

    def test_arguments(self):
        for file, kind, (arguments, methods, operators, made, fields) in each_class():
            self.assertEqual(str(inspect.signature(kind)), arguments)
            for name, told in methods.items():
                self.assertIn(name, vars(kind))
                method = vars(kind)[name]
                if isinstance(method, staticmethod):
                    method = method.__func__
                self.assertEqual(str(inspect.signature(method)), told, name)

    def test_each_class_has_its_operators_itself(self):
        for file, kind, (arguments, methods, operators, made, fields) in each_class():
            for name in operators:
                self.assertIn(name, vars(kind), kind)

    def test_used_is_a_property(self):
        self.assertIsInstance(vars(Way)["used"], property)

    def test_fields_are_set_on_each_object(self):
        for file, kind, (arguments, methods, operators, made, fields) in each_class():
            self.assertIs(type(made), kind)
            for field in fields:
                self.assertIn(field, vars(made))

    def test_no_class_derives_from_another(self):
        for file, kind, told in each_class():
            self.assertEqual(kind.__bases__, (object,))

    def test_functions(self):
        for file, functions in FUNCTIONS.items():
            for name, arguments in functions.items():
                function = getattr(module_of(file), name)
                self.assertTrue(inspect.isfunction(function))
                self.assertEqual(function.__module__, f"partstell.{file}")
                self.assertEqual(str(inspect.signature(function)), arguments)

    def test_nothing_is_imported_from_outside_the_package(self):
        for file in pathlib.Path(partstell.__file__).parent.glob("*.py"):
            for node in ast.walk(ast.parse(file.read_text())):
                self.assertNotIsInstance(node, ast.Import, file)
                if isinstance(node, ast.ImportFrom):
                    self.assertEqual(node.level, 0, file)
                    self.assertIn(node.module.split(".")[0], ("partstell", "__future__"), file)


if __name__ == "__main__":
    unittest.main()
