"""Promises [2], [7] and [8]: spaces."""

import itertools
import unittest

from partstell.errors import NoAxis, NoCell, NoMember, NoSpace
from partstell.ratios import Ratio
from partstell.regions import Region
from partstell.spaces import Space

# What is neither a list nor a tuple: a string or bytes are no sequences.
NO_SEQUENCES = (
    None, True, False, 0, 3, "", "ab", "abc", b"ab", b"", {}, {"a": ["x"]}, range(2), Ratio(1),
    Space, len, Space([("a", ["x"])]), Space([("a", ["x"])]).whole(),
)
NO_NAMES = (
    "", "A", "aB", "1", "1a", "a_", "_a", "a b", " a", "a ", "a.", "a-b", "abcdefghi", "a23456789",
    "\u00e9", "a\u00e9", "\uff41", "a\u0661", "a\n", "\n", "a" * 1000, b"a", None, True, False, 0, 1,
    ("a",), ["a"], {}, [], (), Ratio(1), Space,
)


def two_axes():
    return Space([("a", ("x", "y")), ("b", ("u", "v", "w"))])


def members(many, head="m"):
    return [f"{head}{place}" for place in range(many)]


class Refusing(unittest.TestCase):
    def refused(self, place, word, axes):
        with self.assertRaises(NoSpace) as held:
            Space(axes)
        self.assertEqual((held.exception.place, held.exception.word), (place, word))


class Making(Refusing):
    def test_fields(self):
        space = two_axes()
        self.assertEqual(space.axes, (("a", ("x", "y")), ("b", ("u", "v", "w"))))
        told = (("x", "u"), ("x", "v"), ("x", "w"), ("y", "u"), ("y", "v"), ("y", "w"))
        self.assertEqual(space.cells, told)

    def test_members_keep_their_order(self):
        space = Space([("b", ["z", "a"]), ("a", ["y", "b1", "x"])])
        told = (("z", "y"), ("z", "b1"), ("z", "x"), ("a", "y"), ("a", "b1"), ("a", "x"))
        self.assertEqual(space.cells, told)
        self.assertEqual(space.axes, (("b", ("z", "a")), ("a", ("y", "b1", "x"))))

    def test_fields_are_tuples_whatever_was_given(self):
        axes = (["a", ["x", "y"]], ("b", ("u",)))
        for given in (axes, list(axes)):
            space = Space(given)
            self.assertEqual(space.axes, (("a", ("x", "y")), ("b", ("u",))))
            self.assertIs(type(space.axes), tuple)
            self.assertEqual([type(axis) for axis in space.axes], [tuple, tuple])
            self.assertEqual([type(axis[1]) for axis in space.axes], [tuple, tuple])
            self.assertIs(type(space.cells), tuple)
            self.assertEqual([type(cell) for cell in space.cells], [tuple, tuple])

    def test_one_axis(self):
        self.assertEqual(Space([("a", ["x"])]).cells, (("x",),))
        self.assertEqual(Space([("a", members(8))]).cells, tuple((m,) for m in members(8)))

    def test_four_axes(self):
        axes = [("a", ["x", "y"]), ("b", ["x", "y"]), ("c", ["p", "q", "r"]), ("d", ["x", "a"])]
        space = Space(axes)
        self.assertEqual(space.cells, tuple(itertools.product(*[axis[1] for axis in axes])))
        self.assertEqual(len(space.cells), 24)

    def test_four_axes_with_one_member_each(self):
        self.assertEqual(Space([(name, ["x"]) for name in "abcd"]).cells, (("x",) * 4,))

    def test_names_of_1_and_8_characters(self):
        space = Space([("abcdefg9", ["z0123456", "z"]), ("q", ["a"])])
        self.assertEqual(space.cells, (("z0123456", "a"), ("z", "a")))

    def test_every_letter_and_digit_may_stand_in_a_name(self):
        for sign in "abcdefghijklmnopqrstuvwxyz":
            self.assertEqual(Space([(sign, ["z" + sign])]).cells, (("z" + sign,),))
        for sign in "0123456789":
            self.assertEqual(Space([("a" + sign, ["z" + sign])]).cells, (("z" + sign,),))

    def test_an_axis_may_have_the_name_of_a_member(self):
        space = Space([("x", ["x", "y"]), ("y", ["x", "y"])])
        self.assertEqual(len(space.cells), 4)

    def test_24_cells(self):
        for counts in ((8, 3), (3, 8), (4, 6), (2, 3, 4), (2, 2, 2, 3), (1, 3, 1, 8)):
            axes = [(name, members(many)) for name, many in zip("abcd", counts)]
            self.assertEqual(len(Space(axes).cells), 24)

    def test_what_was_passed_may_change_afterwards(self):
        first = ["x", "y"]
        axis = ["a", first]
        axes = [axis]
        space = Space(axes)
        first.append("z")
        axis[0] = "b"
        axes.append(("c", ["x"]))
        self.assertEqual(space.axes, (("a", ("x", "y")),))
        self.assertEqual(space.cells, (("x",), ("y",)))

    def test_arguments_stay_as_they_are(self):
        axes = [["a", ["x", "y"]], ("b", ["u"])]
        Space(axes)
        self.assertEqual(axes, [["a", ["x", "y"]], ("b", ["u"])])

    def test_by_keyword(self):
        self.assertEqual(Space(axes=[("a", ["x"])]).cells, (("x",),))


class Refused(Refusing):
    def test_axes(self):
        for odd in NO_SEQUENCES:
            self.refused(-1, "axes", odd)
        self.refused(-1, "axes", [])
        self.refused(-1, "axes", ())
        self.refused(-1, "axes", [(name, ["x"]) for name in "abcde"])
        self.refused(-1, "axes", [None] * 5)

    def test_axis(self):
        for odd in NO_SEQUENCES:
            self.refused(0, "axis", [odd])
            self.refused(1, "axis", (("a", ["x"]), odd))
        self.refused(0, "axis", [()])
        self.refused(0, "axis", [("a",)])
        self.refused(0, "axis", [("a", ["x"], ["y"])])
        self.refused(0, "axis", [["A"]])

    def test_name(self):
        for odd in NO_NAMES:
            self.refused(0, "name", [(odd, ["x"])])
            self.refused(2, "name", [("a", ["x"]), ("b", ["x"]), [odd, ["x"]]])
        self.refused(0, "name", [("A", None)])

    def test_members(self):
        for odd in NO_SEQUENCES:
            self.refused(0, "members", [("a", odd)])
            self.refused(1, "members", [("a", ["x"]), ("b", odd)])
        self.refused(0, "members", [("a", [])])
        self.refused(0, "members", [("a", ())])
        self.refused(0, "members", [("a", members(9))])
        self.refused(0, "members", [("a", ["X"] * 9)])
        self.refused(1, "members", [("a", ["x"]), ("a", [])])

    def test_member(self):
        for odd in NO_NAMES:
            self.refused(0, "member", [("a", [odd])])
            self.refused(0, "member", [("a", ["x", odd])])
            self.refused(1, "member", [("a", ["x"]), ("b", (odd, "x"))])
        self.refused(0, "member", [("a", ["x", "x", "X"])])
        self.refused(1, "member", [("a", ["x"]), ("a", ["X"])])
        self.refused(0, "member", [("a", ["x", [], []])])

    def test_twice(self):
        self.refused(0, "twice", [("a", ("x", "x"))])
        self.refused(0, "twice", [("a", ("x", "y", "z", "y"))])
        self.refused(1, "twice", [("a", ["x"]), ("a", ["y"])])
        self.refused(3, "twice", [("a", ["x"]), ("b", ["x"]), ("c", ["x"]), ("a", ["x"])])
        self.refused(1, "twice", [("a", ["x"]), ("b", ["x", "y", "x"])])

    def test_cells(self):
        for counts in ((5, 5), (8, 4), (4, 7), (3, 3, 3), (2, 2, 2, 4), (8, 8, 8, 8), (2, 5, 3)):
            axes = [(name, members(many)) for name, many in zip("abcd", counts)]
            self.refused(-1, "cells", axes)

    def test_the_first_axis_that_is_not_as_told(self):
        self.refused(0, "member", [("a", ["X"]), ("A", ["x"])])
        self.refused(0, "twice", [("a", ["x", "x"]), None])
        self.refused(1, "axis", [("a", ["x"]), None, ("a", ["x"])])
        self.refused(1, "members", [("a", ["x"]), ("b", []), ("A", [])])

    def test_cells_come_behind_the_axes(self):
        self.refused(2, "twice", [("a", members(8)), ("b", members(8)), ("a", members(8))])
        self.refused(2, "name", [("a", members(8)), ("b", members(8)), ("", members(8))])

    def test_a_refused_list_stays_as_it_is(self):
        axes = [["a", ["x", "x"]]]
        self.refused(0, "twice", axes)
        self.assertEqual(axes, [["a", ["x", "x"]]])


class Equality(unittest.TestCase):
    def test_equal_spaces(self):
        for axes in ([["a", ["x", "y"]]], (("a", ("x", "y")),)):
            self.assertIs(Space([("a", ["x", "y"])]) == Space(axes), True)
            self.assertIs(Space([("a", ["x", "y"])]) != Space(axes), False)

    def test_unequal_spaces(self):
        for axes in (
            [("b", ["x", "y"])], [("a", ["y", "x"])], [("a", ["x"])], [("a", ["x", "y", "z"])],
            [("a", ["x", "y"]), ("b", ["u"])],
        ):
            self.assertIs(Space([("a", ["x", "y"])]) == Space(axes), False)
            self.assertIs(Space([("a", ["x", "y"])]) != Space(axes), True)
        one = Space([("a", ["x"]), ("b", ["x"])])
        self.assertIs(one == Space([("b", ["x"]), ("a", ["x"])]), False)

    def test_unequal_to_anything_else(self):
        space = Space([("a", ["x", "y"])])
        for other in (
            None, True, 0, "a", space.axes, space.cells, list(space.axes), {}, Ratio(1), Space,
            space.whole(), NoCell("x"), (space.axes, space.cells),
        ):
            self.assertIs(space == other, False)
            self.assertIs(space != other, True)
            self.assertIs(other == space, False)


class Places(unittest.TestCase):
    def test_place_of(self):
        space = two_axes()
        for place, cell in enumerate(space.cells):
            self.assertEqual(space.place_of(cell), place)
            self.assertEqual(space.place_of(tuple(list(cell))), place)
        self.assertEqual(space.place_of(cell=("y", "u")), 3)

    def test_no_cell(self):
        space = two_axes()
        for odd in (
            ["x", "u"], ("x",), ("x", "u", "u"), ("u", "x"), ("x", "z"), ("X", "u"), (), [], None, 0,
            True, "xu", "x", b"xu", {}, {"x": "u"}, (["x"], "u"), ("x", ["u"]), ("x", {}), ("x", None),
            (("x",), ("u",)), (("x", "u"),), ("x", b"u"), Ratio(1), (Ratio(1), "u"), space,
            space.whole(), Space, range(2), ("x", 10 ** 5000), NotImplemented, (NotImplemented, "u"),
        ):
            with self.assertRaises(NoCell) as held:
                space.place_of(odd)
            self.assertIs(held.exception.cell, odd)

    def test_a_cell_of_another_space_is_none(self):
        with self.assertRaises(NoCell) as held:
            Space([("a", ["x"])]).place_of(("y",))
        self.assertEqual(held.exception.cell, ("y",))


class Where(unittest.TestCase):
    def test_cells_with_one_of_the_members(self):
        space = two_axes()
        self.assertEqual(space.where("a", ["y"]).cells, (("y", "u"), ("y", "v"), ("y", "w")))
        told = (("x", "u"), ("x", "w"), ("y", "u"), ("y", "w"))
        for given in (["u", "w"], ("w", "u"), ["w", "u", "w", "w"]):
            self.assertEqual(space.where("b", given).cells, told)
        self.assertEqual(space.where("b", ["u", "v", "w"]), space.whole())

    def test_without_members(self):
        for given in ([], ()):
            self.assertEqual(two_axes().where("a", given), two_axes().empty())

    def test_it_is_a_region_of_the_space(self):
        space = two_axes()
        found = space.where(axis="a", members=["x"])
        self.assertIsInstance(found, Region)
        self.assertEqual(found.space, space)
        self.assertEqual(found, Region(space, [("x", "u"), ("x", "v"), ("x", "w")]))

    def test_a_member_counts_on_the_named_axis_only(self):
        space = Space([("a", ["x", "y"]), ("b", ["x", "y"])])
        self.assertEqual(space.where("b", ["x"]).cells, (("x", "x"), ("y", "x")))
        self.assertEqual(space.where("a", ["x"]).cells, (("x", "x"), ("x", "y")))

    def test_the_list_may_change_afterwards(self):
        space, given = two_axes(), ["x"]
        found = space.where("a", given)
        self.assertEqual(given, ["x"])
        given.append("y")
        self.assertEqual(len(found), 3)

    def test_no_axis(self):
        for odd in ("c", "A", "", "x", "ab", None, 0, 1, True, ["a"], ("a",), b"a", {}, Ratio(1), Space):
            for given in ([], ["x"], ["nothing"], [None]):
                with self.assertRaises(NoAxis) as held:
                    two_axes().where(odd, given)
                self.assertIs(held.exception.axis, odd)

    def test_no_member(self):
        for odd in ("u", "z", "X", "", "xy", None, 0, True, ["x"], ("x",), b"x", {}, Ratio(1), Space):
            for given in ([odd], ["x", odd], (odd, "x"), ["y", "y", odd, "q"]):
                with self.assertRaises(NoMember) as held:
                    two_axes().where("a", given)
                self.assertIs(held.exception.member, odd)

    def test_the_first_that_is_no_member(self):
        with self.assertRaises(NoMember) as held:
            two_axes().where("a", ["x", "w", "v"])
        self.assertEqual(held.exception.member, "w")

    def test_a_refused_call_changes_nothing(self):
        space, given = two_axes(), ["x", "q"]
        with self.assertRaises(NoMember):
            space.where("a", given)
        self.assertEqual((space, given), (two_axes(), ["x", "q"]))


class WholeAndEmpty(unittest.TestCase):
    def test_whole(self):
        space = two_axes()
        self.assertIsInstance(space.whole(), Region)
        self.assertEqual((space.whole().space, space.whole().cells), (space, space.cells))

    def test_empty(self):
        space = two_axes()
        self.assertIsInstance(space.empty(), Region)
        self.assertEqual((space.empty().space, space.empty().cells), (space, ()))


if __name__ == "__main__":
    unittest.main()
