"""Promises [2], [39], [40] and [41]: values that are kept up to date."""

import random
import unittest

from drawn import (
    EXTREMES, GRID, LARGE, LINE, MARKS, OTHER, SMALL, drawn_linear, drawn_measure, drawn_region, drawn_store,
    drawn_table, store_of,
)
from partstell.errors import NoMeasure, NoTable, NoTaking, NoValues
from partstell.kept import after_put, after_taken, merge_twins, merged, taking_twins
from partstell.linear import Linear, count_of, squares_of, sum_of
from partstell.measures import Greatest, Least, Quotient, Spread, Variance, mean_of
from partstell.ratios import Ratio
from partstell.regions import Region
from partstell.spaces import Space
from partstell.stores import Store
from partstell.tables import Table
from test_choosing import NO_MEASURES

SPACES = (SMALL, LINE, GRID, LARGE)
WHOLE, EMPTY = SMALL.whole(), SMALL.empty()
FIRST = SMALL.where("a", ["x"])
A, B = SMALL.cells
MOST = 10 ** 30
NO_CELLS = (None, "x", ["x"], ("q",), ("x", "y"), (), 0, b"x", {}, WHOLE, SMALL, ("X",))
NO_VALUES = (None, MOST + 1, -MOST - 1, True, "1", Ratio(1), [1], ())
NO_TIMES = (0, -1, None, True, "1", Ratio(2), [], 10 ** 30 * -1)


def full_store(space):
    """Give a store with 16 parts, of which some have empty regions."""
    first, whole, empty = Region(space, space.cells[:1]), space.whole(), space.empty()
    store = Store(space)
    parts = [made(region) for made in (*MARKS, *EXTREMES) for region in (first, whole, empty)]
    for place, part in enumerate([*parts, count_of(whole) * Ratio(1, 3) - sum_of(first) * 10 ** 20]):
        store[f"p{place}"] = part
    return store


def huge_table(space):
    cells = space.cells
    rows = [(cells[0], MOST, MOST), (cells[0], -MOST, 1), (cells[-1], MOST - 1, 10 ** 50), (cells[-1], 0, 3)]
    return Table(space, rows)


def stores_and_tables(number, many):
    source = random.Random(number)
    for _ in range(many):
        space = source.choice(SPACES[:3])
        yield source, drawn_store(source, space), drawn_table(source, space)
    for space in SPACES:
        for store in (Store(space), full_store(space), store_of(space, *(made(space.empty()) for made in EXTREMES))):
            for table in (Table(space), drawn_table(source, space), huge_table(space)):
                yield source, store, table


class Values(unittest.TestCase):
    def assertValues(self, store, found, wanted):
        self.assertIs(type(found), dict)
        self.assertEqual(found, wanted)
        self.assertEqual(sorted(found), store.names())
        for name in found:
            self.assertIs(type(found[name]), type(wanted[name]))


class Merging(Values):
    def test_drawn(self):
        nones = 0
        for source, store, one in stores_and_tables(391, 120):
            for other in (drawn_table(source, store.space), Table(store.space), huge_table(store.space), one):
                values, more = store.part_values(one), store.part_values(other)
                nones += list(values.values()).count(None)
                self.assertValues(store, merged(store, values, more), store.part_values(one + other))
                self.assertEqual(values, store.part_values(one))
                self.assertEqual(more, store.part_values(other))
        self.assertGreater(nones, 100)

    def test_the_example_of_the_document(self):
        store = store_of(SMALL, low=Least(WHOLE))
        self.assertEqual(merged(store, {"low": 3}, {"low": None}), {"low": 3})
        self.assertEqual(merged(store, {"low": None}, {"low": -3}), {"low": -3})
        self.assertEqual(merged(store, {"low": None}, {"low": None}), {"low": None})
        self.assertEqual(merged(store, {"low": 0}, {"low": None}), {"low": 0})

    def test_each_kind(self):
        store = store_of(SMALL, c=count_of(WHOLE), g=Greatest(WHOLE), l=Least(WHOLE))
        values, more = {"c": Ratio(2), "g": 5, "l": -1}, {"c": Ratio(3), "g": 4, "l": 4}
        self.assertEqual(merged(store, values, more), {"c": Ratio(5), "g": 5, "l": -1})
        self.assertEqual(merged(store, more, values), {"c": Ratio(5), "g": 5, "l": -1})

    def test_other_names_mean_nothing(self):
        store = store_of(SMALL, l=Least(WHOLE))
        self.assertEqual(merged(store, {"x": "?", "l": 2, 5: None}, {"l": 1, "": None, None: 1}), {"l": 1})

    def test_the_order_of_keys_means_nothing(self):
        store = store_of(SMALL, b=Least(WHOLE), a=Greatest(WHOLE))
        self.assertEqual(merged(store, {"b": 1, "a": 2}, {"a": 3, "b": 4}), {"a": 3, "b": 1})
        self.assertEqual(merged(store, {"a": 2, "b": 1}, {"b": 4, "a": 3}), {"a": 3, "b": 1})

    def test_the_dict_is_new(self):
        store = store_of(SMALL, l=Least(WHOLE))
        values, more = {"l": 1}, {"l": 2}
        found = merged(store, values, more)
        found["l"] = 9
        found["m"] = 9
        self.assertEqual((values, more, store.names()), ({"l": 1}, {"l": 2}, ["l"]))
        self.assertEqual(merged(store, values, more), {"l": 1})


class Putting(Values):
    def test_drawn(self):
        for source, store, table in stores_and_tables(392, 150):
            cell, value = source.choice(store.space.cells), source.choice((-MOST, -5, 0, 1, 7, MOST))
            values = store.part_values(table)
            found = after_put(store, values, cell, value)
            self.assertValues(store, found, store.part_values(table.put(cell, value)))
            for times in (1, 2, 5, 10 ** 40):
                found = after_put(store, values, cell, value, times=times)
                self.assertValues(store, found, store.part_values(table.put(cell, value, times=times)))
            self.assertEqual(values, store.part_values(table))

    def test_other_names_mean_nothing(self):
        store = store_of(SMALL, l=Least(WHOLE), c=count_of(FIRST))
        self.assertEqual(after_put(store, {"l": None, "c": Ratio(0), "z": 1}, A, 4, times=3), {"c": Ratio(3), "l": 4})

    def test_by_keywords(self):
        store = store_of(SMALL, l=Least(WHOLE))
        self.assertEqual(after_put(times=2, value=4, cell=A, values={"l": 5}, store=store), {"l": 4})


class Taking(Values):
    def wanted(self, store, values, cell, value):
        """Give the name for which a row may not be taken, or None."""
        for name in store.names():
            part, held = store[name], values[name]
            if isinstance(part, Least) and cell in part.region and not (held is not None and held < value):
                return name
            if isinstance(part, Greatest) and cell in part.region and not (held is not None and held > value):
                return name
        return None

    def test_drawn(self):
        refused = taken = 0
        for source, store, table in stores_and_tables(393, 250):
            values = store.part_values(table)
            for cell, value, most in table.rows:
                name = self.wanted(store, values, cell, value)
                for times in {1, most}:
                    if name is not None:
                        refused += 1
                        with self.assertRaises(NoTaking) as held:
                            after_taken(store, values, cell, value, times=times)
                        self.assertEqual(held.exception.name, name)
                        continue
                    taken += 1
                    found = after_taken(store, values, cell, value, times=times)
                    self.assertValues(store, found, store.part_values(table.without(cell, value, times=times)))
            self.assertEqual(values, store.part_values(table))
        self.assertGreater(refused, 200)
        self.assertGreater(taken, 200)

    def test_times_left_out(self):
        store = store_of(SMALL, c=count_of(WHOLE), s=sum_of(FIRST))
        self.assertEqual(after_taken(store, {"c": Ratio(3), "s": Ratio(10)}, A, 4), {"c": Ratio(2), "s": Ratio(6)})
        self.assertEqual(
            after_taken(times=2, value=4, cell=B, values={"c": Ratio(3), "s": Ratio(10)}, store=store),
            {"c": Ratio(1), "s": Ratio(10)},
        )

    def test_values_at_the_bounds(self):
        store = store_of(SMALL, g=Greatest(WHOLE), l=Least(WHOLE))
        values = {"g": MOST, "l": -MOST}
        self.assertEqual(after_taken(store, values, A, MOST - 1, times=10 ** 50), values)
        for value, name in ((MOST, "g"), (-MOST, "l")):
            with self.assertRaises(NoTaking) as held:
                after_taken(store, values, A, value)
            self.assertEqual(held.exception.name, name)

    def test_when_an_extreme_part_may_change(self):
        for kind, sign in ((Least, 1), (Greatest, -1)):
            store = store_of(SMALL, b=kind(FIRST), a=kind(WHOLE), c=count_of(WHOLE), d=kind(EMPTY))
            values = {"a": 1 * sign, "b": 3 * sign, "c": Ratio(5), "d": None}
            self.assertEqual(after_taken(store, values, A, 4 * sign), {**values, "c": Ratio(4)})
            self.assertEqual(after_taken(store, values, B, 2 * sign), {**values, "c": Ratio(4)})
            for cell, value, name in ((A, 3, "b"), (A, 2, "b"), (A, 1, "a"), (B, 1, "a"), (A, 0, "a"), (B, -7, "a")):
                with self.assertRaises(NoTaking) as held:
                    after_taken(store, values, cell, value * sign)
                self.assertEqual(held.exception.name, name)
            for held_value in (None,):
                with self.assertRaises(NoTaking) as held:
                    after_taken(store, {**values, "a": held_value}, B, 100 * sign)
                self.assertEqual(held.exception.name, "a")

    def test_the_first_name_as_a_string(self):
        store = store_of(SMALL, a9=Least(WHOLE), a10=Greatest(WHOLE))
        with self.assertRaises(NoTaking) as held:
            after_taken(store, {"a9": 2, "a10": 2}, A, 2)
        self.assertEqual(held.exception.name, "a10")

    def test_the_dict_is_new(self):
        store = store_of(SMALL, c=count_of(WHOLE))
        values = {"c": Ratio(3)}
        for function in (after_put, after_taken):
            function(store, values, A, 1).clear()
            self.assertEqual(values, {"c": Ratio(3)})


class Errors(unittest.TestCase):
    def setUp(self):
        self.store = store_of(SMALL, a10=Least(WHOLE), a9=count_of(WHOLE), b=Greatest(FIRST))
        self.values = {"a10": 1, "a9": Ratio(3), "b": 2}

    def without(self, *names):
        return {name: value for name, value in self.values.items() if name not in names}

    def assertNoValues(self, name, function, *arguments):
        with self.assertRaises(NoValues) as held:
            function(*arguments)
        self.assertEqual(held.exception.name, name)

    def test_a_name_that_is_missing(self):
        for names, first in ((["b"], "b"), (["a9", "b"], "a9"), (["a10", "a9"], "a10"), (["b", "a10"], "a10")):
            rest = self.without(*names)
            self.assertNoValues(first, merged, self.store, rest, self.values)
            self.assertNoValues(first, merged, self.store, self.values, rest)
            self.assertNoValues(first, after_put, self.store, rest, A, 1)
            self.assertNoValues(first, after_taken, self.store, rest, A, 1)
        self.assertNoValues("a10", merged, self.store, {}, {})

    def test_values_ahead_of_more(self):
        self.assertNoValues("b", merged, self.store, self.without("b"), self.without("a10"))
        self.assertNoValues("b", merged, self.store, self.without("b"), {})
        self.assertNoValues("a9", merged, self.store, self.without("a9", "b"), self.without("b"))

    def test_no_table(self):
        for function in (after_put, after_taken):
            for word, wrongs in (("cell", NO_CELLS), ("value", NO_VALUES), ("times", NO_TIMES)):
                for wrong in wrongs:
                    row = {"cell": A, "value": 100, "times": 1, word: wrong}
                    # Behind the first word that is due, other wrong ones mean nothing.
                    if word == "cell":
                        rows = [row, {**row, "value": None}, {**row, "value": MOST + 1, "times": 0}]
                    else:
                        rows = [row, {**row, "times": 0}]
                    for each in rows:
                        with self.assertRaises(NoTable) as held:
                            function(self.store, self.values, each["cell"], each["value"], times=each["times"])
                        self.assertEqual((held.exception.place, held.exception.word), (0, word))

    def test_no_values_ahead_of_no_table(self):
        for function in (after_put, after_taken):
            self.assertNoValues("b", function, self.store, self.without("b"), None, None)
            self.assertNoValues("a9", function, self.store, self.without("a9"), A, 1)

    def test_no_table_ahead_of_no_taking(self):
        for wrong in NO_TIMES:
            with self.assertRaises(NoTable) as held:
                after_taken(self.store, self.values, A, -50, times=wrong)
            self.assertEqual((held.exception.place, held.exception.word), (0, "times"))
        with self.assertRaises(NoTaking) as held:
            after_taken(self.store, self.values, A, -50)
        self.assertEqual(held.exception.name, "a10")

    def test_an_error_changes_nothing(self):
        values = dict(self.values)
        before = self.store.copy()
        for call in (
            lambda: after_taken(self.store, values, A, -50), lambda: after_put(self.store, values, None, 1),
            lambda: merged(self.store, values, {}),
        ):
            with self.assertRaises(ValueError):
                call()
        self.assertEqual((values, self.store), (self.values, before))


class Bounds(unittest.TestCase):
    def assertBounds(self, space, *tables):
        for table in tables:
            self.assertIs(type(table), Table)
            self.assertEqual(table.space, space)
            self.assertLessEqual(len(table), 500)
            for cell, value, times in table.rows:
                self.assertLessEqual(abs(value), 9)
                self.assertLessEqual(times, 10 ** 6)


class TakingTwins(Bounds):
    def assertTwins(self, store):
        found = taking_twins(store)
        names = [
            name for name in store.names() if not isinstance(store[name], Linear) and len(store[name].region) > 0
        ]
        if not names:
            self.assertIsNone(found)
            return False
        self.assertIs(type(found), tuple)
        name, cell, value, one, other = found
        self.assertEqual(name, names[0])
        self.assertIn(cell, store.space.cells)
        self.assertIs(type(value), int)
        self.assertLessEqual(abs(value), 9)
        self.assertBounds(store.space, one, other)
        self.assertEqual(store.part_values(one), store.part_values(other))
        part = store[name]
        self.assertNotEqual(part(one.without(cell, value)), part(other.without(cell, value)))
        self.assertEqual(taking_twins(store.copy()), found)
        return True

    def test_drawn(self):
        source = random.Random(401)
        found = [self.assertTwins(drawn_store(source, source.choice(SPACES))) for _ in range(150)]
        self.assertGreater(found.count(True), 50)
        self.assertGreater(found.count(False), 10)

    def test_stores_without_such_a_part(self):
        for space in SPACES:
            empty = space.empty()
            for parts in ((), [made(empty) for made in (*MARKS, *EXTREMES)], [made(space.whole()) for made in MARKS]):
                self.assertIs(self.assertTwins(store_of(space, *parts)), False)

    def test_the_first_such_name(self):
        store = store_of(SMALL, a=count_of(WHOLE), b=Least(EMPTY), c10=Greatest(FIRST), c9=Least(WHOLE))
        self.assertIs(self.assertTwins(store), True)
        self.assertEqual(taking_twins(store)[0], "c10")
        store.drop("c10")
        self.assertIs(self.assertTwins(store), True)
        self.assertEqual(taking_twins(store)[0], "c9")

    def test_16_parts(self):
        for space in SPACES:
            self.assertIs(self.assertTwins(full_store(space)), True)
        source = random.Random(402)
        for kind in EXTREMES:
            for _ in range(10):
                parts = [kind(drawn_region(source, LARGE)) for _ in range(4)] + [kind(LARGE.whole())]
                parts += [drawn_linear(source, LARGE) for _ in range(11)]
                self.assertIs(self.assertTwins(store_of(LARGE, *parts)), True)

    def test_each_region(self):
        for kind in EXTREMES:
            for cell in LARGE.cells:
                for region in (Region(LARGE, [cell]), ~Region(LARGE, [cell])):
                    self.assertTwins(store_of(LARGE, z=kind(region), y=Least(LARGE.empty()), x=sum_of(region)))


class MergeTwins(Bounds):
    def assertTwins(self, measure):
        found = merge_twins(measure)
        self.assertIs(type(found), tuple)
        one, other, more = found
        self.assertBounds(measure.space, one, other, more)
        self.assertEqual(measure(one), measure(other))
        self.assertNotEqual(measure(one + more), measure(other + more))
        self.assertEqual(merge_twins(measure), found)

    def test_none(self):
        source = random.Random(411)
        for space in SPACES:
            for made in (*MARKS, *EXTREMES):
                for region in (space.whole(), space.empty(), drawn_region(source, space)):
                    self.assertIsNone(merge_twins(made(region)))
            self.assertIsNone(merge_twins(drawn_linear(source, space)))
            self.assertIsNone(merge_twins(Variance(space.empty())))
            self.assertIsNone(merge_twins(Spread(space.empty())))

    def test_variance_and_spread(self):
        source = random.Random(412)
        for space in SPACES:
            for kind in (Variance, Spread):
                self.assertTwins(kind(space.whole()))
                for cell in space.cells:
                    self.assertTwins(kind(Region(space, [cell])))
                    self.assertTwins(kind(drawn_region(source, space) | Region(space, [cell])))

    def test_quotients(self):
        source = random.Random(413)
        for space in SPACES:
            whole = space.whole()
            self.assertTwins(mean_of(whole))
            self.assertTwins(Quotient(squares_of(whole), sum_of(whole)))
            self.assertTwins(Quotient(sum_of(whole), count_of(whole)))
            for _ in range(60):
                store = drawn_store(source, space)
                measure = drawn_measure(source, store)
                if isinstance(measure, Quotient):
                    self.assertTwins(measure)

    def test_quotients_that_are_nearly_proportional(self):
        huge = 10 ** 50
        top = Linear(SMALL, [huge, huge + 1], [1, 1], [Ratio(1, huge), 0])
        for more in ([huge, huge], [huge, huge + 2], [0, 0], [-huge, Ratio(1, 3)]):
            for squares in (Ratio(1, huge), 0):
                self.assertTwins(Quotient(top, Linear(SMALL, more, [1, 1], [squares, 1])))

    def test_quotients_in_which_only_one_value_counts(self):
        # Each of the two is 0 for rows of many of the small values.
        one, other = Linear(SMALL, [0, 0], [-1, 0], [1, 0]), Linear(SMALL, [0, 0], [0, -1], [0, 1])
        third = Linear(SMALL, [0, 0], [-2, 0], [1, 0])
        for top, bottom in ((one, other), (other, one), (one, third), (third, one), (third, count_of(FIRST))):
            self.assertTwins(Quotient(top, bottom))
        self.assertTwins(Quotient(count_of(FIRST) - count_of(WHOLE) * 2, count_of(WHOLE)))
        self.assertTwins(Quotient(sum_of(WHOLE) - squares_of(WHOLE), count_of(WHOLE) - sum_of(WHOLE)))

    def test_no_measure(self):
        for odd in NO_MEASURES:
            with self.assertRaises(NoMeasure):
                merge_twins(odd)
        with self.assertRaises(NoMeasure):
            merge_twins(OTHER)

    def test_by_keywords(self):
        self.assertIsNone(merge_twins(measure=Least(WHOLE)))
        self.assertIsNone(taking_twins(store=Store(Space([("a", ["x"])]))))


if __name__ == "__main__":
    unittest.main()
