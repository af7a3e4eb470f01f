"""Promises [2], [12], [14], [15] and [16]: the measures that are not linear."""

import itertools
import random
import unittest
from fractions import Fraction

from partstell.errors import NoQuotient, OtherSpace
from partstell.linear import Linear, count_of, squares_of, sum_of
from partstell.measures import Greatest, Least, Quotient, Spread, Variance, mean_of
from partstell.ratios import Ratio
from partstell.regions import Region
from partstell.spaces import Space
from partstell.tables import Table

SPACE = Space([("a", ("x", "y", "z"))])
OTHER = Space([("a", ("x", "y", "w"))])
X, Y, Z = SPACE.cells
MOST = 10 ** 30
OF_REGIONS = (Least, Greatest, Spread, Variance)


def all_regions(space):
    for many in range(len(space.cells) + 1):
        for cells in itertools.combinations(space.cells, many):
            yield Region(space, cells)


def rows_of(region, table):
    """Give the values of all rows of the region, each as often as its times say."""
    return [value for cell, value, times in table.rows if cell in region.cells for _ in range(times)]


def drawn_table(source):
    values = (0, 1, -1, 2, 5, -7, MOST, -MOST)
    rows = [
        (source.choice(SPACE.cells), source.choice(values), source.randint(1, 3))
        for _ in range(source.randint(0, 8))
    ]
    return Table(SPACE, rows)


def ratio(number):
    return Ratio(number.numerator, number.denominator)


class OfRegions(unittest.TestCase):
    def test_fields(self):
        for kind in OF_REGIONS:
            for region in all_regions(SPACE):
                measure = kind(region)
                self.assertEqual(measure.region, region)
                self.assertEqual(measure.space, SPACE)
            self.assertEqual(kind(region=SPACE.whole()), kind(SPACE.whole()))

    def test_equality(self):
        for kind in OF_REGIONS:
            for one in all_regions(SPACE):
                for other in all_regions(Space([["a", ["x", "y", "z"]]])):
                    self.assertIs(kind(one) == kind(other), one.cells == other.cells)
                    self.assertIs(kind(one) != kind(other), one.cells != other.cells)

    def test_unequal_to_all_else(self):
        region = SPACE.whole()
        things = [kind(region) for kind in OF_REGIONS] + [mean_of(region), count_of(region)]
        more = [region, SPACE, None, 1, True, "", (), Ratio(0), Table(SPACE), Least]
        for one in things:
            for other in things + more:
                if one is not other:
                    self.assertIs(one == other, False)
                    self.assertIs(other == one, False)
                    self.assertIs(one != other, True)

    def test_unequal_in_another_space(self):
        for kind in OF_REGIONS:
            self.assertIs(kind(SPACE.empty()) == kind(OTHER.empty()), False)
            self.assertIs(kind(Region(SPACE, [X])) == kind(Region(OTHER, [X])), False)

    def test_other_space(self):
        for kind in OF_REGIONS:
            for region in (SPACE.whole(), SPACE.empty()):
                with self.assertRaises(OtherSpace):
                    kind(region)(Table(OTHER))

    def test_none_without_rows(self):
        table = Table(SPACE, [(X, 3, 1)])
        for kind in OF_REGIONS:
            self.assertIsNone(kind(SPACE.empty())(table))
            self.assertIsNone(kind(Region(SPACE, [Y, Z]))(table))
            self.assertIsNone(kind(SPACE.whole())(Table(SPACE)))

    def test_drawn(self):
        source = random.Random(7)
        for _ in range(60):
            table = drawn_table(source)
            for region in all_regions(SPACE):
                rows = rows_of(region, table)
                if not rows:
                    continue
                self.assertEqual(Least(region)(table), min(rows))
                self.assertEqual(Greatest(region)(table), max(rows))
                self.assertEqual(Spread(region)(table), max(rows) - min(rows))
                mean = Fraction(sum(rows), len(rows))
                variance = sum((value - mean) ** 2 for value in rows) / len(rows)
                self.assertEqual(Variance(region)(table), ratio(variance))
                self.assertEqual(mean_of(region)(table), ratio(mean))

    def test_kinds_of_values(self):
        table = Table(SPACE, [(X, 3, 1), (Y, 5, 1)])
        for kind, wanted in ((Least, 3), (Greatest, 5), (Spread, 2)):
            value = kind(SPACE.whole())(table)
            self.assertIs(type(value), int)
            self.assertEqual(value, wanted)
        self.assertIs(type(Variance(SPACE.whole())(table)), Ratio)
        self.assertEqual(Variance(SPACE.whole())(table), 1)

    def test_a_value_of_0_is_a_value(self):
        table = Table(SPACE, [(X, 0, 1)])
        for kind in OF_REGIONS:
            value = kind(SPACE.whole())(table)
            self.assertIsNotNone(value)
            self.assertEqual(value, 0)

    def test_values_at_the_bounds(self):
        table = Table(SPACE, [(X, MOST, 10 ** 40), (X, -MOST, 10 ** 40)])
        self.assertEqual(Least(SPACE.whole())(table), -MOST)
        self.assertEqual(Greatest(SPACE.whole())(table), MOST)
        self.assertEqual(Spread(SPACE.whole())(table), 2 * MOST)
        self.assertEqual(Variance(SPACE.whole())(table), MOST ** 2)

    def test_times_count_for_the_variance(self):
        table = Table(SPACE, [(X, 3, 3), (Y, 4, 1)])
        self.assertEqual(Variance(SPACE.whole())(table), Ratio(3, 16))


class Quotients(unittest.TestCase):
    def test_fields(self):
        top, bottom = sum_of(SPACE.whole()), count_of(SPACE.whole())
        for quotient in (Quotient(top, bottom), Quotient(bottom=bottom, top=top)):
            self.assertEqual((quotient.top, quotient.bottom, quotient.space), (top, bottom, SPACE))

    def test_equality(self):
        top, bottom, more = sum_of(SPACE.whole()), count_of(SPACE.whole()), squares_of(SPACE.whole())
        one = Quotient(top, bottom)
        self.assertIs(one == Quotient(sum_of(SPACE.whole()), count_of(SPACE.whole())), True)
        self.assertIs(one != Quotient(top, bottom), False)
        for other in (
            Quotient(bottom, top), Quotient(more, bottom), Quotient(top, more), Quotient(top * 2, bottom * 2),
            mean_of(OTHER.whole()), top, bottom, None, 1, True, (top, bottom), Ratio(1), Table(SPACE), "",
        ):
            self.assertIs(one == other, False)
            self.assertIs(other == one, False)
            self.assertIs(one != other, True)

    def test_value(self):
        table = Table(SPACE, [(X, 4, 2), (Y, -3, 1)])
        value = Quotient(squares_of(SPACE.whole()), sum_of(SPACE.whole()))(table)
        self.assertIs(type(value), Ratio)
        self.assertEqual(value, Ratio(41, 5))
        value = Quotient(squares_of(SPACE.whole()) * Ratio(1, 3), count_of(SPACE.whole()))(table)
        self.assertEqual(value, Ratio(41, 9))

    def test_none_where_the_lower_value_is_0(self):
        quotient = Quotient(count_of(SPACE.whole()), sum_of(SPACE.whole()))
        self.assertIsNone(quotient(Table(SPACE)))
        self.assertIsNone(quotient(Table(SPACE, [(X, 0, 5)])))
        self.assertIsNone(quotient(Table(SPACE, [(X, 2, 1), (Y, -1, 2)])))

    def test_the_value_may_be_0(self):
        value = Quotient(sum_of(SPACE.whole()), count_of(SPACE.whole()))(Table(SPACE, [(X, 0, 5)]))
        self.assertEqual(value, Ratio(0))
        self.assertIs(type(value), Ratio)

    def test_other_space_of_a_table(self):
        with self.assertRaises(OtherSpace):
            mean_of(SPACE.whole())(Table(OTHER))

    def test_other_space_comes_first(self):
        for top, bottom in itertools.product(
            (sum_of(SPACE.whole()), count_of(SPACE.empty())), (count_of(OTHER.whole()), count_of(OTHER.empty())),
        ):
            for pair in ((top, bottom), (bottom, top)):
                with self.assertRaises(OtherSpace):
                    Quotient(*pair)

    def test_multiples(self):
        source = random.Random(8)
        for _ in range(40):
            numbers = [[source.choice((0, 0, 1, -2, Ratio(3, 4))) for _ in range(3)] for _ in range(3)]
            measure = Linear(SPACE, *numbers)
            for factor in (0, 1, -1, 10 ** 40, Ratio(-2, 7)):
                for pair in ((measure, measure * factor), (measure * factor, measure)):
                    with self.assertRaises(NoQuotient):
                        Quotient(*pair)

    def test_exactly_the_multiples(self):
        space = Space([("a", ["x"])])
        vectors = list(itertools.product((-1, 0, 1, 2), repeat=3))
        for one, other in itertools.product(vectors, repeat=2):
            crossed = [one[i] * other[j] - one[j] * other[i] for i in range(3) for j in range(i)]
            top, bottom = (Linear(space, *([number] for number in vector)) for vector in (one, other))
            if any(crossed):
                self.assertEqual(Quotient(top, bottom).top, top)
            else:
                with self.assertRaises(NoQuotient):
                    Quotient(top, bottom)

    def test_items_that_are_alike_but_for_one(self):
        one = Linear(SPACE, [1, 2, 3], [4, 5, 6], [7, 8, 9])
        for place in range(9):
            numbers = [Ratio(2 * k) for k in range(1, 10)]
            numbers[place] = numbers[place] + Ratio(1, 10 ** 30)
            other = Linear(SPACE, numbers[:3], numbers[3:6], numbers[6:])
            self.assertEqual(Quotient(one, other).bottom, other)
            self.assertEqual(Quotient(other, one).top, other)

    def test_mean(self):
        for region in all_regions(SPACE):
            if len(region) > 0:
                self.assertEqual(mean_of(region), Quotient(sum_of(region), count_of(region)))
        self.assertEqual(mean_of(region=SPACE.whole()), mean_of(SPACE.whole()))
        self.assertIsNone(mean_of(SPACE.whole())(Table(SPACE)))

    def test_mean_of_an_empty_region(self):
        with self.assertRaises(NoQuotient):
            mean_of(SPACE.empty())


if __name__ == "__main__":
    unittest.main()
