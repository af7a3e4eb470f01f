"""Promises [44], [45] and [46]: groups, and values of coarse groups from fine ones."""

import itertools
import random
import unittest

from drawn import GRID, LARGE, OTHER, SMALL, drawn_region, drawn_table
from partstell.errors import NoAxis, NoKind, NoRoll, NoValues, OtherSpace, Twice
from partstell.grouped import grouped, rolled, rolls_up
from partstell.linear import count_of, squares_of, sum_of
from partstell.measures import Greatest, Least
from partstell.ratios import Ratio
from partstell.regions import Region
from partstell.spaces import Space
from partstell.stores import Store
from partstell.tables import Table
from partstell.telling import tells

KINDS = {"count": count_of, "sum": sum_of, "squares": squares_of, "least": Least, "greatest": Greatest}
CUBE = Space([("a", ("x", "y")), ("b", ("u",)), ("c", ("m", "n", "o"))])
ONES = Space([("a", ("x",)), ("b", ("u",)), ("c", ("m",)), ("d", ("k",))])
SPACES = (SMALL, GRID, CUBE, ONES, LARGE)
NO_KINDS = ("mean", "Count", "counts", "", "variance", "spread", None, 0, True, b"count", ["count"], ("count",), {},
    count_of)
NO_AXES = ("q", "A", "", None, 0, True, b"a", ["a"], ("a",), {}, Ratio(1), SMALL)
MOST = 10 ** 30


def axes_of(space):
    return [name for name, members in space.axes]


def all_axes(space):
    """Give all sequences of names of axes, in every order."""
    for many in range(len(space.axes) + 1):
        yield from itertools.permutations(axes_of(space), many)


def broad(space, axes):
    return {name for name, members in space.axes if len(members) > 1 and name in axes}


class Grouping(unittest.TestCase):
    def assertGroups(self, space, axes, within, found, made):
        region = space.whole() if within is None else within
        groups = region.groups(axes)
        self.assertIs(type(found), dict)
        self.assertEqual(found, {f"g{number}": made(group) for number, group in enumerate(groups)})

    def test_each_kind(self):
        source = random.Random(441)
        for space in SPACES:
            for axes in all_axes(space):
                for kind, made in KINDS.items():
                    for given in (axes, list(axes)):
                        self.assertGroups(space, axes, None, grouped(space, kind, given), made)
                        region = drawn_region(source, space)
                        self.assertGroups(space, axes, region, grouped(space, kind, given, within=region), made)

    def test_what_the_groups_are(self):
        space = Space([("a", ("x", "y")), ("b", ("u", "v"))])
        self.assertEqual(grouped(space, "count", ["b"]), {
            "g0": count_of(Region(space, [("x", "u"), ("y", "u")])), "g1": count_of(Region(space, [("x", "v"), ("y",
            "v")])),
        })
        self.assertEqual(grouped(space, "least", []), {"g0": Least(space.whole())})
        within = Region(space, [("y", "u"), ("x", "v")])
        self.assertEqual(grouped(space, "sum", ["a"], within=within), {
            "g0": sum_of(Region(space, [("x", "v")])), "g1": sum_of(Region(space, [("y", "u")])),
        })

    def test_without_cells(self):
        for kind in KINDS:
            for axes in all_axes(GRID):
                self.assertEqual(grouped(GRID, kind, axes, within=GRID.empty()), {})

    def test_24_groups(self):
        found = grouped(LARGE, "greatest", axes_of(LARGE))
        cells = [Region(LARGE, [cell]) for cell in LARGE.cells]
        self.assertEqual(found, {f"g{place}": Greatest(region) for place, region in enumerate(cells)})

    def test_an_equal_space(self):
        again = Space([["a", ["x", "y"]]])
        self.assertEqual(grouped(SMALL, "count", ["a"], within=again.whole()), grouped(SMALL, "count", ["a"]))

    def test_the_dict_is_new(self):
        axes = ["a"]
        grouped(SMALL, "count", axes).clear()
        self.assertEqual(len(grouped(SMALL, "count", axes)), 2)
        self.assertEqual(axes, ["a"])

    def test_by_keywords(self):
        found = grouped(within=SMALL.whole(), axes=["a"], kind="count", space=SMALL)
        self.assertEqual(found, grouped(SMALL, "count", ["a"]))

    def test_errors(self):
        far = OTHER.whole()
        for kind in ("count", "none", None):
            for axes in (["a"], ["q"], ["a", "a"]):
                with self.assertRaises(OtherSpace):
                    grouped(SMALL, kind, axes, within=far)
        for kind in NO_KINDS:
            for axes in (["a"], ["q"], ["a", "a"]):
                with self.assertRaises(NoKind) as held:
                    grouped(SMALL, kind, axes)
                self.assertIs(held.exception.kind, kind)
        for kind in KINDS:
            for odd in NO_AXES:
                for axes in ([odd], ["a", odd], ("a", odd, "a")):
                    with self.assertRaises(NoAxis) as held:
                        grouped(SMALL, kind, axes, within=SMALL.empty())
                    self.assertIs(held.exception.axis, odd)
            for axes in (["a", "a"], ("a", "a", "q")):
                with self.assertRaises(Twice) as held:
                    grouped(SMALL, kind, axes)
                self.assertEqual(held.exception.name, "a")


class RollingUp(unittest.TestCase):
    def test_drawn(self):
        source = random.Random(451)
        found = {True: 0, False: 0}
        for _ in range(600):
            space = source.choice(SPACES)
            choices = list(all_axes(space))
            stored = [source.choice(choices) for _ in range(source.randint(0, 3))]
            axes = source.choice(choices)
            wanted = any(broad(space, axes) <= set(fine) for fine in stored)
            self.assertIs(rolls_up(space, stored, axes), wanted)
            self.assertIs(rolls_up(space, tuple(map(list, stored)), list(axes)), wanted)
            found[wanted] += 1
        self.assertGreater(min(found.values()), 100)

    def test_cases(self):
        for stored, axes, wanted in (
            ([], [], False), ([[]], [], True), ([[]], ["b"], True), ([["b"]], ["b"], True), ([["b"]], [], True),
            ([["b"]], ["a"], False), ([["a"]], ["b", "a"], True), ([["a"]], ["c"], False), ([["a"], ["c"]], ["c",
            "a"], False),
            ([["a"], ["c"]], ["c"], True), ([["c", "b", "a"]], ["a", "c"], True), ([["a", "c"]], ["c", "b", "a"], True),
        ):
            self.assertIs(rolls_up(CUBE, stored, axes), wanted, (stored, axes))
        for axes in all_axes(ONES):
            self.assertIs(rolls_up(ONES, [()], axes), True)
            self.assertIs(rolls_up(ONES, (), axes), False)

    def test_what_stores_of_groups_tell(self):
        for space in (SMALL, GRID, CUBE, ONES):
            choices = [axes for axes in all_axes(space) if list(axes) == sorted(axes)]
            for stored in [(), *((each,) for each in choices), *itertools.combinations(choices, 2)]:
                for kind in KINDS:
                    parts = [part for fine in stored for part in grouped(space, kind, fine).values()]
                    if len(parts) > 16:
                        continue
                    store = Store(space)
                    for place, part in enumerate(parts):
                        store[f"p{place}"] = part
                    for axes in choices:
                        wanted = rolls_up(space, stored, axes)
                        for part in grouped(space, kind, axes).values():
                            self.assertIs(tells(store, part), wanted)

    def test_16_stored_sequences(self):
        stored = [["a"], ["b"], ["c"], ["d"]] * 4
        self.assertIs(rolls_up(LARGE, stored, ["a", "b"]), False)
        self.assertIs(rolls_up(LARGE, stored, ["d"]), True)
        self.assertIs(rolls_up(LARGE, stored[:15] + [["c", "d", "a"]], ["a", "d"]), True)
        self.assertEqual(stored, [["a"], ["b"], ["c"], ["d"]] * 4)
        self.assertIs(rolls_up(LARGE, stored * 2, ["d", "c"]), False)

    def test_errors(self):
        for odd in NO_AXES:
            for stored, axes in (
                ([[odd]], ["a"]), ([["a"], ["a", odd, "a"]], ["a", "a"]), ([["a"], [odd], ["a", "a"]], []),
                ([["a"]], [odd]), ([], ["a", odd]), ([["a"], []], ["a", odd, "a"]),
            ):
                with self.assertRaises(NoAxis) as held:
                    rolls_up(SMALL, stored, axes)
                self.assertIs(held.exception.axis, odd)
        for stored, axes, name in (
            ([["a", "a"]], ["q"], "a"), ([["a"], ["b", "b"], ["q"]], [], "b"), ([["a"]], ["b", "a", "b", "a"], "b"),
            ([], ["a", "a"], "a"), ([["b", "a", "a"], ["b", "b"]], ["q"], "a"),
        ):
            with self.assertRaises(Twice) as held:
                rolls_up(GRID, stored, axes)
            self.assertEqual(held.exception.name, name)

    def test_by_keywords(self):
        self.assertIs(rolls_up(axes=["a"], stored=[["a"]], space=SMALL), True)


class Rolling(unittest.TestCase):
    def values(self, space, kind, axes, table):
        return {name: measure(table) for name, measure in grouped(space, kind, axes).items()}

    def test_drawn(self):
        source = random.Random(461)
        for space in SPACES:
            tables = [Table(space), drawn_table(source, space), drawn_table(source, space)]
            tables.append(Table(space, [(space.cells[0], MOST, 10 ** 40), (space.cells[-1], -MOST, 1)]))
            for fine, coarse in itertools.product(all_axes(space), repeat=2):
                if space is LARGE and source.random() < 0.9:
                    continue
                for kind in KINDS:
                    table = source.choice(tables)
                    values = self.values(space, kind, fine, table)
                    if not broad(space, coarse) <= set(fine):
                        with self.assertRaises(NoRoll):
                            rolled(space, kind, fine, coarse, values)
                        continue
                    found = rolled(space, kind, list(fine), list(coarse), values)
                    wanted = self.values(space, kind, coarse, table)
                    self.assertIs(type(found), dict)
                    self.assertEqual(found, wanted)
                    for name in wanted:
                        self.assertIs(type(found[name]), type(wanted[name]))
                    self.assertEqual(values, self.values(space, kind, fine, table))

    def test_values_of_12_groups(self):
        values = {f"g{place}": place for place in range(12)}
        self.assertEqual(rolled(LARGE, "least", ["a", "b", "c"], ["a"], values), {"g0": 0, "g1": 4, "g2": 8})
        self.assertEqual(rolled(LARGE, "greatest", ["a", "b", "c"], ["c"], values), {"g0": 10, "g1": 11})
        some = {**values, "g0": None, "g2": None, "g4": None, "g6": None, "g8": None, "g10": None}
        self.assertEqual(rolled(LARGE, "greatest", ["a", "b", "c"], ["c"], some), {"g0": None, "g1": 11})
        ratios = {name: Ratio(value, 2) for name, value in values.items()}
        self.assertEqual(rolled(LARGE, "sum", ["a", "b", "c"], [], ratios), {"g0": 33})

    def test_other_names_mean_nothing(self):
        values = {"g1": 4, "g0": 3, "g2": "?", "x": None, 5: 1}
        self.assertEqual(rolled(SMALL, "least", ["a"], [], values), {"g0": 3})

    def test_by_keywords(self):
        found = rolled(values={"g0": 1, "g1": 2}, coarse=[], fine=["a"], kind="greatest", space=SMALL)
        self.assertEqual(found, {"g0": 2})

    def test_errors(self):
        for kind in NO_KINDS:
            with self.assertRaises(NoKind) as held:
                rolled(SMALL, kind, ["q"], ["q"], {})
            self.assertIs(held.exception.kind, kind)
        for odd in NO_AXES:
            for fine, coarse in (([odd], ["a", "a"]), (["a", odd, "a"], ["q"]), (["a"], [odd]), ([], ["a", odd])):
                with self.assertRaises(NoAxis) as held:
                    rolled(SMALL, "sum", fine, coarse, {})
                self.assertIs(held.exception.axis, odd)
        for fine, coarse, name in ((["a", "a"], ["q"], "a"), ([], ["b", "b"], "b"), (["b"], ["a", "b", "a"], "a")):
            with self.assertRaises(Twice) as held:
                rolled(GRID, "sum", fine, coarse, {})
            self.assertEqual(held.exception.name, name)
        for fine, coarse in (([], ["a"]), (["a"], ["b"]), (["b"], ["b", "a"])):
            with self.assertRaises(NoRoll):
                rolled(GRID, "sum", fine, coarse, {})

    def test_a_name_that_is_missing(self):
        values = {f"g{place}": Ratio(place) for place in range(24)}
        axes = axes_of(LARGE)
        for missing, first in (([2], 2), ([10, 2], 2), ([23, 10], 10), ([1, 11, 10], 1), (range(24), 0)):
            rest = {name: value for name, value in values.items() if name not in [f"g{place}" for place in missing]}
            with self.assertRaises(NoValues) as held:
                rolled(LARGE, "sum", axes, ["a"], rest)
            self.assertEqual(held.exception.name, f"g{first}")


if __name__ == "__main__":
    unittest.main()
