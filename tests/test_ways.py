"""Promises [2], [20], [21] and [23]: ways and twins as objects."""

import unittest

from partstell.errors import NoValues
from partstell.linear import count_of, squares_of, sum_of
from partstell.measures import Greatest, Least, Quotient, Spread, Variance, mean_of
from partstell.ratios import Ratio
from partstell.regions import Region
from partstell.spaces import Space
from partstell.stores import Store
from partstell.tables import Table
from partstell.telling import way_of
from partstell.ways import Twins, Way

SPACE = Space([("a", ("x", "y"))])
OTHER = Space([("a", ("x", "z"))])
X, Y = SPACE.cells
WHOLE = SPACE.whole()
FIRST = Region(SPACE, [X])
COUNT = Way(count_of(WHOLE), {"n": Ratio(1)})
SUM = Way(sum_of(WHOLE), {"t": Ratio(1, 2), "b": Ratio(-3)})
SQUARES = Way(squares_of(WHOLE), {"q": Ratio(2)})
LEAST = Way(Least(WHOLE), ("l", "b"))
GREATEST = Way(Greatest(WHOLE), ("g",))
MEAN = Way(mean_of(WHOLE), (SUM, COUNT))
VARIANCE = Way(Variance(WHOLE), (SQUARES, SUM, COUNT))
SPREAD = Way(Spread(WHOLE), (GREATEST, LEAST))


class Making(unittest.TestCase):
    def test_fields(self):
        for way in (Way(count_of(WHOLE), {"n": Ratio(1)}), Way(pieces={"n": Ratio(1)}, measure=count_of(WHOLE))):
            self.assertEqual(way.measure, count_of(WHOLE))
            self.assertEqual(way.pieces, {"n": Ratio(1)})

    def test_nothing_is_checked(self):
        for measure in (None, 1, "m", SPACE, [], {}):
            for pieces in (None, 0, True, "pieces", b"", (), {}, Ratio(1), SPACE, COUNT, ([],), Way):
                way = Way(measure, pieces)
                self.assertEqual(way.pieces, pieces)
                self.assertIs(type(way.pieces), type(pieces))
                self.assertEqual(way.measure, measure)

    def test_a_dict_is_copied(self):
        pieces = {"n": Ratio(1), "m": Ratio(2)}
        way = Way(count_of(WHOLE), pieces)
        pieces["n"] = Ratio(7)
        pieces["o"] = Ratio(1)
        del pieces["m"]
        self.assertIs(type(way.pieces), dict)
        self.assertEqual(way.pieces, {"n": Ratio(1), "m": Ratio(2)})
        self.assertEqual(way.used, ("m", "n"))

    def test_a_list_becomes_a_tuple(self):
        pieces = ["a", "b"]
        way = Way(Least(WHOLE), pieces)
        pieces.append("c")
        pieces[0] = "z"
        self.assertIs(type(way.pieces), tuple)
        self.assertEqual(way.pieces, ("a", "b"))
        self.assertEqual(Way(Least(WHOLE), []).pieces, ())

    def test_what_was_passed_stays(self):
        pieces = {"n": Ratio(1)}
        Way(count_of(WHOLE), pieces)
        self.assertEqual(pieces, {"n": Ratio(1)})


class Equality(unittest.TestCase):
    def test_equal_fields(self):
        self.assertIs(Way(count_of(WHOLE), {"n": Ratio(2, 2), "a": Ratio(3)}) ==
                      Way(count_of(SPACE.whole()), {"a": Ratio(3), "n": Ratio(1)}), True)
        self.assertIs(Way(Least(WHOLE), ["a"]) == Way(Least(WHOLE), ("a",)), True)
        self.assertIs(MEAN == Way(mean_of(WHOLE), [SUM, COUNT]), True)
        self.assertIs(MEAN != Way(mean_of(WHOLE), [SUM, COUNT]), False)

    def test_unequal(self):
        for one, other in (
            (COUNT, Way(count_of(WHOLE), {"n": Ratio(2)})), (COUNT, Way(count_of(WHOLE), {"m": Ratio(1)})),
            (COUNT, Way(count_of(FIRST), {"n": Ratio(1)})), (COUNT, Way(count_of(WHOLE), ("n",))),
            (COUNT, Way(None, {"n": Ratio(1)})), (LEAST, Way(Least(WHOLE), ("b", "l"))),
            (LEAST, Way(Greatest(WHOLE), ("l", "b"))), (MEAN, Way(mean_of(WHOLE), (COUNT, SUM))),
            (COUNT, SUM), (COUNT, None), (COUNT, 1), (COUNT, True), (COUNT, {"n": Ratio(1)}), (COUNT, count_of(WHOLE)),
            (LEAST, ("l", "b")), (COUNT, "n"), (COUNT, Way), (COUNT, Twins(count_of(WHOLE), {"n": Ratio(1)})),
        ):
            self.assertIs(one == other, False)
            self.assertIs(other == one, False)
            self.assertIs(one != other, True)

    def test_twins(self):
        one, other = Table(SPACE), Table(SPACE, [(X, 1, 1)])
        twins = Twins(one, other)
        self.assertIs(twins == Twins(other=Table(SPACE, [(X, 1, 1)]), one=Table(SPACE)), True)
        self.assertIs(twins != Twins(one, other), False)
        for odd in (
            Twins(other, one), Twins(one, one), Twins(other, other), Twins(Table(OTHER), other), (one, other), None, 1,
            True, one, Way(one, other), "twins", {}, Twins,
        ):
            self.assertIs(twins == odd, False)
            self.assertIs(odd == twins, False)
            self.assertIs(twins != odd, True)

    def test_twins_check_nothing(self):
        for one, other in ((None, 1), ("a", SPACE), (Ratio(1), ()), (Table, {})):
            twins = Twins(one, other)
            self.assertEqual((twins.one, twins.other), (one, other))


class Used(unittest.TestCase):
    def test_names_ascend_without_duplicates(self):
        for way, names in (
            (COUNT, ("n",)), (SUM, ("b", "t")), (LEAST, ("b", "l")), (MEAN, ("b", "n", "t")),
            (VARIANCE, ("b", "n", "q", "t")), (SPREAD, ("b", "g", "l")),
            (Way(Least(WHOLE), ("z", "a10", "a9", "a", "z")), ("a", "a10", "a9", "z")),
            (Way(Least(WHOLE), ()), ()), (Way(count_of(WHOLE), {}), ()), (Way(Spread(WHOLE), (
                Way(Greatest(WHOLE), ()), Way(Least(WHOLE), ()))), ()),
            (Way(count_of(WHOLE), {"z": Ratio(0), "y": Ratio(1)}), ("y", "z")),
        ):
            self.assertEqual(way.used, names)
            self.assertIs(type(way.used), tuple)

    def test_read_only(self):
        with self.assertRaises(AttributeError):
            COUNT.used = ("a",)


class Answers(unittest.TestCase):
    def test_linear(self):
        for values, wanted in (
            ({"t": 4, "b": 1}, -1), ({"t": Ratio(1, 3), "b": Ratio(1, 18)}, 0), ({"t": 3, "b": Ratio(1, 2)}, 0),
            ({"t": 10 ** 60, "b": 0, "n": None, 5: "x", "a": []}, 5 * 10 ** 59),
        ):
            value = SUM.answer(values)
            self.assertEqual(value, Ratio(wanted))
            self.assertIs(type(value), Ratio)
        self.assertEqual(COUNT.answer(values={"n": 7}).text(), "7")

    def test_linear_without_pieces(self):
        value = Way(count_of(WHOLE), {}).answer({})
        self.assertIs(type(value), Ratio)
        self.assertEqual(value, 0)

    def test_least_and_greatest(self):
        names = ("a", "b", "c")
        for values, least, greatest in (
            ((3, 1, 2), 1, 3), ((None, 5, 4), 4, 5), ((None, None, 0), 0, 0), ((None, None, None), None, None),
            ((-(10 ** 30), 0, 10 ** 30), -(10 ** 30), 10 ** 30), ((-1, -1, -1), -1, -1),
        ):
            values = dict(zip(names, values))
            for kind, wanted in ((Least, least), (Greatest, greatest)):
                value = Way(kind(WHOLE), names).answer(values)
                self.assertEqual(value, wanted)
                self.assertIs(type(value), type(wanted))
                self.assertIsNone(Way(kind(WHOLE), ()).answer(values))

    def test_quotient(self):
        self.assertEqual(MEAN.answer({"t": 6, "b": 0, "n": 2}), Ratio(3, 2))
        self.assertEqual(MEAN.answer({"t": 0, "b": 0, "n": Ratio(2, 7)}), Ratio(0))
        for zero in (0, Ratio(0)):
            self.assertIsNone(MEAN.answer({"t": 6, "b": 0, "n": zero}))

    def test_variance(self):
        self.assertEqual(VARIANCE.answer({"t": 12, "b": 0, "n": 4, "q": 10}), Ratio(20, 4) - Ratio(9, 4))
        self.assertIsNone(VARIANCE.answer({"t": 12, "b": 0, "n": 0, "q": 10}))

    def test_spread(self):
        self.assertEqual(SPREAD.answer({"g": 5, "l": 2, "b": -4}), 9)
        self.assertEqual(SPREAD.answer({"g": 5, "l": 5, "b": None}), 0)
        for values in ({"g": None, "l": 2, "b": 3}, {"g": 5, "l": None, "b": None}, {"g": None, "l": None, "b": None}):
            self.assertIsNone(SPREAD.answer(values))

    def test_wrong_ways_answer_too(self):
        way = Way(Quotient(count_of(WHOLE), sum_of(WHOLE)), (
            Way(count_of(WHOLE), {"u": Ratio(0)}), Way(sum_of(WHOLE), {"v": Ratio(7)})))
        self.assertEqual(way.answer({"u": 5, "v": 1}), 0)
        self.assertEqual(Way(Least(FIRST), ("b", "a", "b")).answer({"a": 2, "b": 1}), 1)

    def test_the_first_name_without_a_value(self):
        for way, values, name in (
            (COUNT, {}, "n"), (SUM, {}, "b"), (SUM, {"b": 1}, "t"), (SUM, {"t": 1, "n": 1}, "b"),
            (LEAST, {"l": None}, "b"), (LEAST, {"b": None}, "l"), (MEAN, {"b": 1, "t": 1}, "n"),
            (MEAN, {}, "b"), (VARIANCE, {"b": 1, "n": 0}, "q"), (SPREAD, {"b": None, "l": None}, "g"),
            (Way(count_of(WHOLE), {"z": Ratio(0), "y": Ratio(0)}), {"y": 5}, "z"),
        ):
            with self.assertRaises(NoValues) as held:
                way.answer(values)
            self.assertEqual(held.exception.name, name)

    def test_none_is_a_value(self):
        self.assertIsNone(LEAST.answer({"b": None, "l": None}))

    def test_the_dict_stays(self):
        values = {"t": 6, "b": 0, "n": 2, "other": None}
        MEAN.answer(values)
        self.assertEqual(values, {"t": 6, "b": 0, "n": 2, "other": None})

    def test_part_values(self):
        store = Store(SPACE)
        store["n"], store["t"], store["q"] = count_of(WHOLE), sum_of(WHOLE) * Ratio(2, 3), squares_of(WHOLE)
        store["l"], store["g"] = Least(WHOLE), Greatest(WHOLE)
        measures = [made(WHOLE) for made in (count_of, sum_of, squares_of, Least, Greatest, mean_of, Variance, Spread)]
        for rows in ([], [(X, 0, 1)], [(X, 3, 2), (Y, -4, 10 ** 40), (X, 10 ** 30, 1)]):
            table = Table(SPACE, rows)
            for measure in measures:
                self.assertEqual(way_of(store, measure).answer(store.part_values(table)), measure(table))


if __name__ == "__main__":
    unittest.main()
