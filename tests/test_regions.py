"""Promises [2] and [9]: regions."""

import operator
import unittest

from partstell.errors import NoAxis, NoCell, OtherSpace, Twice
from partstell.ratios import Ratio
from partstell.regions import Region
from partstell.spaces import Space

AXES = (("a", ("x", "y")), ("b", ("u", "v")))
BIG_AXES = (("a", ("x", "y", "z")), ("b", ("u", "v")), ("c", ("p", "q")), ("d", ("m", "n")))
ORDERS = (operator.le, operator.lt, operator.ge, operator.gt)
JOINS = (operator.and_, operator.or_, operator.sub, operator.xor)


def all_regions(space):
    """Give each region of a space with a set of its cells."""
    many = len(space.cells)
    for number in range(1 << many):
        cells = [space.cells[place] for place in range(many) if number >> place & 1]
        yield Region(space, cells), set(cells)


def ascending(space, cells):
    return tuple(cell for cell in space.cells if cell in cells)


class Making(unittest.TestCase):
    def test_fields(self):
        space = Space(AXES)
        region = Region(space, [("y", "u"), ("x", "v")])
        self.assertEqual(region.space, space)
        self.assertEqual(region.cells, (("x", "v"), ("y", "u")))
        self.assertIs(type(region.cells), tuple)

    def test_duplicates_mean_nothing(self):
        space = Space(AXES)
        given = [("y", "u"), ("x", "v"), ("y", "u"), ("y", "u"), ("x", "v")]
        for cells in (given, tuple(given)):
            self.assertEqual(Region(space, cells).cells, (("x", "v"), ("y", "u")))

    def test_ascending_by_place_not_by_name(self):
        space = Space([("a", ["z", "a", "m"])])
        self.assertEqual(Region(space, [("a",), ("m",), ("z",)]).cells, (("z",), ("a",), ("m",)))

    def test_no_cells_and_all_cells(self):
        for axes in (AXES, BIG_AXES, [("a", ["x"])]):
            space = Space(axes)
            for cells in ([], ()):
                self.assertEqual(Region(space, cells).cells, ())
            self.assertEqual(Region(space, list(reversed(space.cells))).cells, space.cells)

    def test_by_keywords(self):
        space = Space(AXES)
        self.assertEqual(Region(cells=[("x", "u")], space=space).cells, (("x", "u"),))

    def test_the_list_may_change_afterwards(self):
        space, cells = Space(AXES), [("y", "u"), ("x", "v")]
        region = Region(space, cells)
        self.assertEqual(cells, [("y", "u"), ("x", "v")])
        cells.append(("x", "u"))
        cells[0] = ("y", "v")
        self.assertEqual(region.cells, (("x", "v"), ("y", "u")))

    def test_no_cell(self):
        space = Space(AXES)
        for odd in (
            ["x", "u"], ("x",), ("u", "x"), (), [], None, 0, True, "xu", b"x", {}, (["x"], "u"),
            Ratio(1), space, space.whole(), Space, ("x", "u", "u"), ("x", "w"),
        ):
            for cells in ([odd], [("x", "u"), odd], (odd, ("x", "u")), [("y", "v"), odd, ("q", "q")]):
                with self.assertRaises(NoCell) as held:
                    Region(space, cells)
                self.assertIs(held.exception.cell, odd)


class Operators(unittest.TestCase):
    def test_joins_of_all_regions(self):
        space = Space(AXES)
        for one, one_cells in all_regions(space):
            for other, other_cells in all_regions(Space(AXES)):
                for join in JOINS:
                    found = join(one, other)
                    self.assertIsInstance(found, Region)
                    self.assertEqual(found.space, space)
                    self.assertEqual(found.cells, ascending(space, join(one_cells, other_cells)))

    def test_orders_of_all_regions(self):
        space = Space(AXES)
        for one, one_cells in all_regions(space):
            for other, other_cells in all_regions(Space(AXES)):
                for order in (*ORDERS, operator.eq, operator.ne):
                    self.assertIs(order(one, other), order(one_cells, other_cells))

    def test_all_other_cells(self):
        space = Space(AXES)
        for region, cells in all_regions(space):
            found = ~region
            self.assertIsInstance(found, Region)
            self.assertEqual(found.space, space)
            self.assertEqual(found.cells, ascending(space, set(space.cells) - cells))

    def test_24_cells(self):
        space = Space(BIG_AXES)
        first, second = space.where("a", ["z", "x"]), space.where("d", ["n"])
        self.assertEqual((len(first), len(second)), (16, 12))
        for join in JOINS:
            told = join(set(first.cells), set(second.cells))
            self.assertEqual(join(first, second).cells, ascending(space, told))
        self.assertEqual(~first, space.where("a", ["y"]))
        self.assertTrue(first & second < first and not first <= second)

    def test_other_space(self):
        space = Space(AXES)
        for axes in ([AXES[1], AXES[0]], [AXES[0]], [AXES[0], ("b", ("v", "u"))], [AXES[0], ("c", ("u", "v"))]):
            other = Space(axes)
            for one, two in (
                (space.whole(), other.whole()), (space.empty(), other.empty()),
                (space.whole(), other.empty()), (space.empty(), other.whole()),
            ):
                for sign in (*JOINS, *ORDERS):
                    with self.assertRaises(OtherSpace):
                        sign(one, two)
                    with self.assertRaises(OtherSpace):
                        sign(two, one)
                self.assertIs(one == two, False)
                self.assertIs(one != two, True)

    def test_equality(self):
        space = Space(AXES)
        region = Region(space, [("x", "u"), ("y", "v")])
        same = Region(Space(AXES), (("y", "v"), ("x", "u"), ("y", "v")))
        self.assertIs(region == same, True)
        self.assertIs(region != same, False)
        self.assertIs(region == space.whole(), False)
        for other in (
            None, True, 0, 2, "x", region.cells, list(region.cells), set(region.cells), space, Ratio(2),
            Region, (space, region.cells), {}, OtherSpace(),
        ):
            self.assertIs(region == other, False)
            self.assertIs(region != other, True)
            self.assertIs(other == region, False)

    def test_in_place_operators_give_a_new_object(self):
        space = Space(AXES)
        for sign, plain in (
            (operator.iand, operator.and_), (operator.ior, operator.or_),
            (operator.isub, operator.sub), (operator.ixor, operator.xor),
        ):
            old = Region(space, [("x", "u"), ("y", "v")])
            more = Region(space, [("x", "u"), ("x", "v")])
            found = sign(old, more)
            self.assertIsNot(found, old)
            self.assertEqual(found, plain(old, more))
            self.assertEqual(old.cells, (("x", "u"), ("y", "v")))
            self.assertEqual(more.cells, (("x", "u"), ("x", "v")))

    def test_a_refused_operator_changes_nothing(self):
        old = Region(Space(AXES), [("x", "u")])
        name = old
        with self.assertRaises(OtherSpace):
            name |= Space([AXES[0]]).whole()
        self.assertIs(name, old)
        self.assertEqual(old.cells, (("x", "u"),))


class LenAndIn(unittest.TestCase):
    def test_len(self):
        for region, cells in all_regions(Space(AXES)):
            self.assertEqual(len(region), len(cells))
        self.assertEqual(len(Space(BIG_AXES).whole()), 24)

    def test_cells_in_a_region(self):
        space = Space(AXES)
        for region, cells in all_regions(space):
            for cell in space.cells:
                self.assertIs(cell in region, cell in cells)

    def test_what_is_no_cell(self):
        region = Space(AXES).whole()
        for odd in (
            ["x", "u"], ("x",), ("u", "x"), ("x", "u", "v"), (), [], None, 0, True, False, "x", "xu",
            b"x", {}, {"x": "u"}, (["x"], "u"), ("x", ["u"]), (None, None), Ratio(1), region, Space,
            region.space, range(2), (("x", "u"),), NotImplemented, OtherSpace(),
        ):
            self.assertIs(odd in region, False)
            self.assertIs(odd in Space(AXES).empty(), False)


class Groups(unittest.TestCase):
    def cells(self, region, axes):
        found = region.groups(axes)
        self.assertIs(type(found), list)
        for group in found:
            self.assertIsInstance(group, Region)
            self.assertEqual(group.space, region.space)
        return [group.cells for group in found]

    def test_by_one_axis(self):
        whole = Space(AXES).whole()
        for axes in (["b"], ("b",)):
            told = [(("x", "u"), ("y", "u")), (("x", "v"), ("y", "v"))]
            self.assertEqual(self.cells(whole, axes), told)
        told = [(("x", "u"), ("x", "v")), (("y", "u"), ("y", "v"))]
        self.assertEqual(self.cells(whole, ["a"]), told)

    def test_by_all_axes(self):
        whole = Space(AXES).whole()
        for axes in (["a", "b"], ["b", "a"]):
            self.assertEqual(self.cells(whole, axes), [(cell,) for cell in whole.cells])

    def test_in_the_order_of_the_first_cells(self):
        space = Space(AXES)
        region = Region(space, [("x", "v"), ("y", "u"), ("y", "v")])
        told = [(("x", "v"), ("y", "v")), (("y", "u"),)]
        self.assertEqual(self.cells(region, ["b"]), told)

    def test_without_axes(self):
        space = Space(AXES)
        region = Region(space, [("x", "v"), ("y", "u")])
        for axes in ([], ()):
            self.assertEqual(self.cells(region, axes), [region.cells])
            self.assertEqual(region.groups(axes), [region])

    def test_without_cells(self):
        for axes in ([], (), ["a"], ["b"], ["a", "b"]):
            self.assertEqual(Space(AXES).empty().groups(axes), [])

    def test_by_two_of_four_axes(self):
        space = Space(BIG_AXES)
        found = self.cells(space.whole(), axes=["d", "a"])
        self.assertEqual(len(found), 6)
        told = []
        for first in ("x", "y", "z"):
            for last in ("m", "n"):
                told.append(tuple(c for c in space.cells if c[0] == first and c[3] == last))
        self.assertEqual(found, told)

    def test_a_new_list_each_time(self):
        whole = Space(AXES).whole()
        found = whole.groups(["a"])
        found.clear()
        self.assertEqual(len(whole.groups(["a"])), 2)

    def test_the_list_of_axes_stays(self):
        axes = ["b", "a"]
        Space(AXES).whole().groups(axes)
        self.assertEqual(axes, ["b", "a"])

    def test_no_axis(self):
        for odd in ("c", "A", "x", "", "ab", None, 0, 1, True, ["a"], ("a",), b"a", {}, Ratio(1), Space):
            for axes in ([odd], ["a", odd], (odd, "a", "a"), ["b", "a", odd, "a"]):
                for region in (Space(AXES).whole(), Space(AXES).empty()):
                    with self.assertRaises(NoAxis) as held:
                        region.groups(axes)
                    self.assertIs(held.exception.axis, odd)

    def test_twice(self):
        for axes, name in (
            (["a", "a"], "a"), (("b", "a", "b"), "b"), (["a", "b", "b", "a"], "b"),
            (["a", "a", "c"], "a"), (["b", "b", None], "b"),
        ):
            for region in (Space(AXES).whole(), Space(AXES).empty()):
                with self.assertRaises(Twice) as held:
                    region.groups(axes)
                self.assertEqual(held.exception.name, name)


if __name__ == "__main__":
    unittest.main()
