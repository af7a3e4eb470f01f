"""Promises [42] and [43]: what stored least and greatest values leave open."""

import itertools
import random
import unittest

from drawn import EXTREMES, GRID, LARGE, LINE, MARKS, SMALL, drawn_region, drawn_table, store_of
from partstell.errors import NotConsistent, NotExtreme, NoValues, OtherSpace
from partstell.leftopen import consistent, left, left_tables, settled
from partstell.linear import count_of, sum_of
from partstell.measures import Greatest, Least, Spread, Variance, mean_of
from partstell.regions import Region
from partstell.spaces import Space
from partstell.stores import Store
from partstell.tables import Table
from test_choosing import NO_MEASURES

MOST = 10 ** 30
SHORT = Space([("a", ("x", "y", "z"))])
X, Y, Z = SHORT.cells
WHOLE = SHORT.whole()
VALUES = (-MOST, -1, 0, 2, MOST)
FUNCTIONS = (left, settled, left_tables)


def cell_contents():
    """Give all that matters of the rows of a cell: its least and its greatest value, or nothing."""
    yield None
    yield from itertools.combinations_with_replacement(VALUES, 2)


ALL_CONTENTS = list(itertools.product(list(cell_contents()), repeat=3))


def value_on(measure, contents):
    held = [content for cell, content in zip(SHORT.cells, contents) if content is not None and cell in measure.region]
    if not held:
        return None
    return min(low for low, high in held) if isinstance(measure, Least) else max(high for low, high in held)


def fitting(store, values):
    """Give all contents on which each part has its value."""
    parts = [(store[name], values[name]) for name in store.names()]
    return [contents for contents in ALL_CONTENTS if all(value_on(part, contents) == value for part, value in parts)]


def searched_bounds(measure, fits):
    found = [value_on(measure, contents) for contents in fits]
    known = [value for value in found if value is not None]
    low, high = (min, max) if isinstance(measure, Least) else (max, min)
    return low(known) if known else None, None if None in found else high(known)


def drawn_extremes(source, space, most=5):
    parts = [source.choice(EXTREMES)(drawn_region(source, space)) for _ in range(source.randint(0, most))]
    return store_of(space, *parts)


def all_measures(space):
    for many in range(len(space.cells) + 1):
        for cells in itertools.combinations(space.cells, many):
            yield Least(Region(space, cells))
            yield Greatest(Region(space, cells))


class Bounding(unittest.TestCase):
    def assertTables(self, store, values, measure):
        """Check both tables against the bounds."""
        bounds = left(store, values, measure)
        self.assertIs(type(bounds), tuple)
        tables = left_tables(store, values, measure)
        self.assertIs(type(tables), tuple)
        self.assertEqual(len(tables), 2)
        for table, bound in zip(tables, bounds):
            self.assertIs(type(table), Table)
            self.assertEqual(table.space, store.space)
            self.assertLessEqual(len(table), 500)
            self.assertEqual(store.part_values(table), {name: values[name] for name in store.names()})
            self.assertEqual(measure(table), bound)
        self.assertIs(settled(store, values, measure), bounds[0] == bounds[1])
        self.assertEqual(left_tables(store, values, measure), tables)
        return bounds

    def assertBounds(self, store, values):
        """Compare all that is told of a store with what all tables over few values show."""
        fits = fitting(store, values)
        self.assertIs(consistent(store, values), len(fits) > 0)
        for measure in all_measures(SHORT):
            if fits:
                self.assertEqual(self.assertTables(store, values, measure), searched_bounds(measure, fits))
            else:
                for function in FUNCTIONS:
                    with self.assertRaises(NotConsistent):
                        function(store, values, measure)
        return len(fits) > 0

    def test_values_of_drawn_tables(self):
        source = random.Random(421)
        for _ in range(40):
            rows = [(source.choice(SHORT.cells), source.choice(VALUES), 1) for _ in range(source.randint(0, 5))]
            store = drawn_extremes(source, SHORT)
            self.assertIs(self.assertBounds(store, store.part_values(Table(SHORT, rows))), True)

    def test_drawn_values(self):
        source = random.Random(422)
        found = {True: 0, False: 0}
        for _ in range(90):
            store = drawn_extremes(source, SHORT, 4)
            values = {name: source.choice((*VALUES, 0, 0, None)) for name in store.names()}
            found[self.assertBounds(store, values)] += 1
        self.assertGreater(min(found.values()), 15)

    def test_one_part_of_each_region(self):
        for part in all_measures(SHORT):
            for value in (None, 0, MOST, -MOST):
                self.assertBounds(store_of(SHORT, part), {"p0": value})

    def test_larger_spaces(self):
        source = random.Random(423)
        for _ in range(60):
            space = source.choice((SMALL, LINE, GRID, LARGE))
            store = drawn_extremes(source, space, 16 - 3)
            table = drawn_table(source, space)
            values = store.part_values(table)
            self.assertIs(consistent(store, values), True)
            for _ in range(5):
                measure = source.choice(EXTREMES)(drawn_region(source, space))
                outer, inner = self.assertTables(store, values, measure)
                value = measure(table)
                for bound in (outer, inner):
                    self.assertTrue(bound is None or -MOST <= bound <= MOST)
                if value is None:
                    self.assertIsNone(inner)
                else:
                    sign = 1 if isinstance(measure, Least) else -1
                    self.assertLessEqual(outer * sign, value * sign)
                    if inner is not None:
                        self.assertLessEqual(value * sign, inner * sign)

    def test_16_parts(self):
        source = random.Random(424)
        for kind in EXTREMES:
            store = store_of(LARGE, *(kind(Region(LARGE, source.sample(LARGE.cells, 5))) for _ in range(16)))
            table = drawn_table(source, LARGE)
            for cell in LARGE.cells:
                for measure in (Least(Region(LARGE, [cell])), Greatest(~Region(LARGE, [cell]))):
                    self.assertTables(store, store.part_values(table), measure)

    def test_the_example_of_the_document(self):
        store = store_of(SMALL, low=Least(SMALL.whole()))
        self.assertEqual(left(store, {"low": 2}, Least(SMALL.where("a", ["x"]))), (2, None))
        self.assertEqual(left(store, {"low": 2}, Least(SMALL.whole())), (2, 2))
        self.assertEqual(left(store, {"low": 2}, Greatest(SMALL.whole())), (MOST, 2))

    def test_a_store_without_parts(self):
        store = Store(SHORT)
        self.assertIs(consistent(store, {}), True)
        self.assertEqual(self.assertTables(store, {}, Least(WHOLE)), (-MOST, None))
        self.assertEqual(self.assertTables(store, {}, Greatest(WHOLE)), (MOST, None))
        for kind in EXTREMES:
            self.assertEqual(self.assertTables(store, {}, kind(SHORT.empty())), (None, None))
            self.assertIs(settled(store, {}, kind(SHORT.empty())), True)

    def test_regions_without_cells(self):
        for kind in EXTREMES:
            store = store_of(SHORT, kind(SHORT.empty()))
            self.assertIs(consistent(store, {"p0": None}), True)
            self.assertIs(consistent(store, {"p0": 0}), False)
            self.assertEqual(left(store, {"p0": None}, Least(WHOLE)), (-MOST, None))

    def test_values_at_and_beyond_the_bounds(self):
        for kind in EXTREMES:
            store = store_of(SHORT, kind(WHOLE))
            for value in (-MOST, MOST, 0):
                self.assertIs(consistent(store, {"p0": value}), True)
                self.assertTables(store, {"p0": value}, Least(Region(SHORT, [X])))
            for value in (-MOST - 1, MOST + 1, 10 ** 60, -(10 ** 60)):
                self.assertIs(consistent(store, {"p0": value}), False)
                for function in FUNCTIONS:
                    with self.assertRaises(NotConsistent):
                        function(store, {"p0": value}, Least(WHOLE))
        store = store_of(SHORT, Least(WHOLE))
        self.assertEqual(left(store, {"p0": MOST}, Greatest(WHOLE)), (MOST, MOST))
        self.assertIs(settled(store, {"p0": MOST}, Greatest(WHOLE)), True)
        self.assertEqual(left(store, {"p0": -MOST}, Greatest(WHOLE)), (MOST, -MOST))

    def test_a_floor_above_the_ceiling(self):
        store = store_of(SHORT, a=Least(WHOLE), b=Greatest(Region(SHORT, [X])))
        self.assertIs(consistent(store, {"a": 3, "b": 2}), False)
        store = store_of(SHORT, a=Least(Region(SHORT, [X, Y])), b=Greatest(Region(SHORT, [X, Z])))
        values = {"a": 3, "b": 2}
        self.assertIs(consistent(store, values), True)
        self.assertEqual(self.assertTables(store, values, Least(Region(SHORT, [X]))), (None, None))
        self.assertIs(settled(store, values, Least(Region(SHORT, [X]))), True)
        self.assertEqual(self.assertTables(store, values, Least(Region(SHORT, [Y]))), (3, 3))
        self.assertEqual(self.assertTables(store, values, Least(Region(SHORT, [Z]))), (-MOST, 2))
        self.assertEqual(self.assertTables(store, values, Greatest(Region(SHORT, [Z]))), (2, 2))

    def test_none_among_the_values(self):
        store = store_of(SHORT, a=Least(Region(SHORT, [X, Y])), b=Greatest(Region(SHORT, [Y, Z])))
        values = {"a": 3, "b": None}
        self.assertEqual(self.assertTables(store, values, Least(WHOLE)), (3, 3))
        self.assertEqual(self.assertTables(store, values, Least(Region(SHORT, [X]))), (3, 3))
        self.assertEqual(self.assertTables(store, values, Greatest(Region(SHORT, [X]))), (MOST, 3))
        self.assertEqual(self.assertTables(store, values, Greatest(Region(SHORT, [Y, Z]))), (None, None))
        self.assertIs(consistent(store, {"a": None, "b": 1}), True)
        self.assertIs(consistent(store_of(SHORT, a=Least(WHOLE), b=Greatest(WHOLE)), {"a": None, "b": 1}), False)
        self.assertEqual(left(store, {"a": None, "b": None}, Least(WHOLE)), (None, None))

    def test_parts_that_only_cells_of_the_region_serve(self):
        store = store_of(SHORT, a=Least(Region(SHORT, [X])), b=Greatest(Region(SHORT, [X, Y])), c=Least(WHOLE))
        values = {"a": 1, "b": 7, "c": 0}
        self.assertEqual(self.assertTables(store, values, Least(Region(SHORT, [X]))), (1, 1))
        self.assertEqual(self.assertTables(store, values, Least(Region(SHORT, [X, Y]))), (0, 1))
        self.assertEqual(self.assertTables(store, values, Least(WHOLE)), (0, 0))
        self.assertEqual(self.assertTables(store, values, Greatest(Region(SHORT, [X]))), (7, 1))
        self.assertEqual(self.assertTables(store, values, Greatest(Region(SHORT, [X, Y]))), (7, 7))
        self.assertEqual(self.assertTables(store, values, Greatest(Region(SHORT, [Z]))), (MOST, None))

    def test_other_names_mean_nothing(self):
        store = store_of(SHORT, a=Least(WHOLE))
        values = {"a": 1, "b": "?", 5: None, "": 3}
        self.assertIs(consistent(store, values), True)
        self.assertEqual(left(store, values, Least(WHOLE)), (1, 1))
        self.assertEqual(values, {"a": 1, "b": "?", 5: None, "": 3})

    def test_by_keywords(self):
        store, values, measure = store_of(SHORT, a=Least(WHOLE)), {"a": 1}, Least(WHOLE)
        self.assertIs(consistent(values=values, store=store), True)
        self.assertEqual(left(measure=measure, values=values, store=store), (1, 1))
        self.assertIs(settled(measure=measure, values=values, store=store), True)
        one, other = left_tables(measure=measure, values=values, store=store)
        self.assertEqual((measure(one), measure(other)), (1, 1))

    def test_the_store_stays_as_it_was(self):
        store = store_of(SHORT, a=Least(WHOLE), b=Greatest(WHOLE))
        before, values = store.copy(), {"b": 5, "a": 1}
        for function in FUNCTIONS:
            function(store, values, Least(WHOLE))
        self.assertEqual((store, values), (before, {"a": 1, "b": 5}))


class Errors(unittest.TestCase):
    def setUp(self):
        self.store = store_of(SHORT, a10=Least(WHOLE), a9=Greatest(WHOLE), b=Least(Region(SHORT, [X])))
        self.values = {"a10": 1, "a9": 5, "b": 2}

    def assertRefused(self, kind, fields, store, values, measure):
        for function in FUNCTIONS:
            with self.assertRaises(kind) as held:
                function(store, values, measure)
            self.assertEqual(vars(held.exception), fields)

    def test_other_space(self):
        far = Space([("a", ("x", "y", "q"))])
        for store in (self.store, store_of(SHORT, count_of(WHOLE)), Store(SHORT)):
            for made in (*MARKS, *EXTREMES, Variance, Spread, mean_of):
                self.assertRefused(OtherSpace, {}, store, {}, made(far.whole()))

    def test_an_equal_space(self):
        again = Space([["a", ["x", "y", "z"]]])
        self.assertEqual(left(self.store, self.values, Least(again.whole())), (1, 1))

    def test_a_part_that_is_not_extreme(self):
        self.store["a99"] = sum_of(WHOLE)
        self.store["zz"] = count_of(WHOLE)
        for measure in (Least(WHOLE), sum_of(WHOLE), mean_of(WHOLE), None, 5, WHOLE):
            self.assertRefused(NotExtreme, {"name": "a99"}, self.store, {}, measure)
        for values in ({}, self.values, {**self.values, "a99": None}):
            with self.assertRaises(NotExtreme) as held:
                consistent(self.store, values)
            self.assertEqual(held.exception.name, "a99")

    def test_a_measure_that_is_not_extreme(self):
        for made in (*MARKS, Variance, Spread, mean_of):
            self.assertRefused(NotExtreme, {"name": None}, self.store, {}, made(WHOLE))
            self.assertRefused(NotExtreme, {"name": None}, Store(SHORT), {}, made(WHOLE))
        for odd in NO_MEASURES:
            self.assertRefused(NotExtreme, {"name": None}, self.store, self.values, odd)

    def test_a_name_that_is_missing(self):
        for names, first in ((["b"], "b"), (["a9", "b"], "a9"), (["a9", "a10"], "a10"), (["a10"], "a10")):
            rest = {name: value for name, value in self.values.items() if name not in names}
            self.assertRefused(NoValues, {"name": first}, self.store, rest, Least(WHOLE))
            with self.assertRaises(NoValues) as held:
                consistent(self.store, rest)
            self.assertEqual(held.exception.name, first)
        # Missing values are refused ahead of values that do not go together.
        self.assertRefused(NoValues, {"name": "b"}, self.store, {"a10": 9, "a9": 5}, Least(WHOLE))

    def test_not_consistent(self):
        for values in ({"a10": 9, "a9": 5, "b": 2}, {"a10": 1, "a9": 5, "b": 0}, {"a10": None, "a9": 5, "b": 2}):
            self.assertIs(consistent(self.store, values), False)
            self.assertRefused(NotConsistent, {}, self.store, values, Least(WHOLE))
            self.assertRefused(NotConsistent, {}, self.store, values, Greatest(SHORT.empty()))


if __name__ == "__main__":
    unittest.main()
