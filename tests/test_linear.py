"""Promises [2], [12] and [13]: linear measures."""

import itertools
import operator
import random
import unittest
from fractions import Fraction

from partstell.errors import NoLinear, NoRatio, OtherSpace
from partstell.linear import Linear, count_of, squares_of, sum_of
from partstell.measures import Greatest, Least
from partstell.ratios import Ratio
from partstell.regions import Region
from partstell.spaces import Space
from partstell.tables import Table

SPACE = Space([("a", ("x", "y", "z"))])
OTHER = Space([("a", ("x", "y", "w"))])
GRID = Space([("a", ("x", "y")), ("b", ("u", "v", "w"))])
X, Y, Z = SPACE.cells
MOST = 10 ** 30
WORDS = ("counts", "sums", "squares")
NO_NUMBERS = (
    None, 0, True, "abc", b"abc", {}, {0: 1, 1: 1, 2: 1}, SPACE, Ratio(3), Linear, range(3),
    (), [], (1, 2), [1, 2, 3, 4], (1, 2, True), (False, 2, 3), [1, None, 2], (1, "2", 3), [[1], 2, 3], (1, 2, (3,)),
)


def fraction(number):
    if isinstance(number, int):
        return Fraction(number)
    return Fraction(number.top, number.bottom)


def items(measure):
    return [fraction(number) for number in measure.counts + measure.sums + measure.squares]


def value_by_rows(measure, table):
    """Give the value as the document tells it, row by row."""
    value = Fraction(0)
    for cell, worth, times in table.rows:
        place = measure.space.cells.index(cell)
        p, q, r = (fraction(part[place]) for part in (measure.counts, measure.sums, measure.squares))
        value += times * (p + q * worth + r * worth * worth)
    return value


def drawn_number(source):
    if source.random() < 0.4:
        return source.choice((0, 0, 1, -1, 3, 10 ** 40))
    return Ratio(source.randint(-9, 9), source.randint(1, 9))


def drawn_measure(source, space):
    many = len(space.cells)
    return Linear(space, *([drawn_number(source) for _ in range(many)] for _ in range(3)))


def drawn_table(source, space):
    values = (0, 1, -1, 2, -7, MOST, -MOST)
    rows = [
        (source.choice(space.cells), source.choice(values), source.choice((1, 2, 10 ** 40)))
        for _ in range(source.randint(0, 12))
    ]
    return Table(space, rows)


class Making(unittest.TestCase):
    def test_fields(self):
        measure = Linear(SPACE, [1, Ratio(1, 2), -3], (0, 0, 0), [Ratio(7), 10 ** 50, 0])
        self.assertEqual(measure.space, SPACE)
        self.assertEqual(measure.counts, (Ratio(1), Ratio(1, 2), Ratio(-3)))
        self.assertEqual(measure.sums, (Ratio(0), Ratio(0), Ratio(0)))
        self.assertEqual(measure.squares, (Ratio(7), Ratio(10 ** 50), Ratio(0)))
        for numbers in (measure.counts, measure.sums, measure.squares):
            self.assertIs(type(numbers), tuple)
            for number in numbers:
                self.assertIs(type(number), Ratio)

    def test_by_keywords(self):
        measure = Linear(squares=[0, 0, 3], sums=[0, 2, 0], counts=[1, 0, 0], space=SPACE)
        self.assertEqual(measure, Linear(SPACE, [1, 0, 0], [0, 2, 0], [0, 0, 3]))

    def test_each_word(self):
        good = (1, 2, 3)
        for place, word in enumerate(WORDS):
            for odd in NO_NUMBERS:
                given = [good, good, good]
                given[place] = odd
                with self.assertRaises(NoLinear) as held:
                    Linear(SPACE, *given)
                self.assertEqual(held.exception.word, word)

    def test_the_first_word_that_is_due(self):
        good, odd = (1, 2, 3), (1, 2)
        for first in range(3):
            for second in range(first + 1, 3):
                given = [good, good, good]
                given[first] = given[second] = odd
                with self.assertRaises(NoLinear) as held:
                    Linear(SPACE, *given)
                self.assertEqual(held.exception.word, WORDS[first])

    def test_the_lists_may_change_afterwards(self):
        counts, sums, squares = [1, 0, 0], [0, 1, 0], [0, 0, 1]
        measure = Linear(SPACE, counts, sums, squares)
        for numbers in (counts, sums, squares):
            numbers[0] = 77
            numbers.append(5)
        self.assertEqual(measure, Linear(SPACE, (1, 0, 0), (0, 1, 0), (0, 0, 1)))

    def test_a_space_of_one_cell(self):
        space = Space([("a", ["x"])])
        self.assertEqual(Linear(space, [1], [2], [3])(Table(space, [(("x",), 5, 2)])), 2 * (1 + 10 + 75))


class Equality(unittest.TestCase):
    def test_equal_items(self):
        one = Linear(SPACE, [1, 2, 3], [Ratio(2, 4), 0, 0], [0, 0, 0])
        other = Linear(Space([["a", ["x", "y", "z"]]]), (Ratio(1), 2, Ratio(6, 2)), (Ratio(1, 2), 0, 0), (0, 0, 0))
        self.assertIs(one == other, True)
        self.assertIs(one != other, False)

    def test_unequal(self):
        one = Linear(SPACE, [1, 2, 3], [4, 5, 6], [7, 8, 9])
        for other in (
            Linear(SPACE, [1, 2, 4], [4, 5, 6], [7, 8, 9]), Linear(SPACE, [1, 2, 3], [4, 0, 6], [7, 8, 9]),
            Linear(SPACE, [1, 2, 3], [4, 5, 6], [-7, 8, 9]), Linear(OTHER, [1, 2, 3], [4, 5, 6], [7, 8, 9]),
            None, 1, True, (1, 2, 3), Ratio(1), SPACE, SPACE.whole(), Table(SPACE), "", Linear, one.counts,
            Least(SPACE.whole()), Greatest(SPACE.whole()),
        ):
            self.assertIs(one == other, False)
            self.assertIs(other == one, False)
            self.assertIs(one != other, True)

    def test_measures_0_of_two_spaces(self):
        self.assertIs(count_of(SPACE.empty()) == count_of(OTHER.empty()), False)
        self.assertIs(count_of(SPACE.empty()) == squares_of(SPACE.empty()), True)


class Values(unittest.TestCase):
    def test_value(self):
        measure = Linear(SPACE, [1, 0, 2], [Ratio(1, 2), 3, 0], [0, Ratio(-1, 3), 5])
        table = Table(SPACE, [(X, 4, 2), (Y, -3, 1), (Z, 2, 3), (X, -1, 1)])
        self.assertEqual(measure(table), 2 * 3 + (-9 - 3) + 3 * 22 + Ratio(1, 2))

    def test_always_a_ratio(self):
        for measure in (count_of(SPACE.whole()), count_of(SPACE.empty()), Linear(SPACE, [0] * 3, [1] * 3, [0] * 3)):
            for table in (Table(SPACE), Table(SPACE, [(X, 0, 1)]), Table(SPACE, [(X, 3, 2)])):
                self.assertIs(type(measure(table)), Ratio)

    def test_without_rows(self):
        self.assertEqual(Linear(SPACE, [1, 2, 3], [4, 5, 6], [7, 8, 9])(Table(SPACE)), Ratio(0))

    def test_drawn(self):
        source = random.Random(4)
        for _ in range(80):
            space = source.choice((SPACE, GRID))
            measure, table = drawn_measure(source, space), drawn_table(source, space)
            self.assertEqual(fraction(measure(table)), value_by_rows(measure, table))

    def test_huge(self):
        table = Table(SPACE, [(X, MOST, 10 ** 40), (X, -MOST, 10 ** 40 - 1)])
        self.assertEqual(sum_of(SPACE.whole())(table), Ratio(MOST))
        self.assertEqual(squares_of(SPACE.whole())(table), Ratio((2 * 10 ** 40 - 1) * 10 ** 60))
        self.assertEqual(count_of(SPACE.whole())(table), 2 * 10 ** 40 - 1)

    def test_more_than_500_rows(self):
        table = Table(SPACE, [(X, value, 1) for value in range(500)])
        table = table + Table(SPACE, [(X, value, 1) for value in range(500, 1000)])
        self.assertEqual(sum_of(SPACE.whole())(table), 499500)

    def test_other_space(self):
        for table in (Table(OTHER), Table(GRID)):
            for measure in (count_of(SPACE.whole()), count_of(SPACE.empty())):
                with self.assertRaises(OtherSpace):
                    measure(table)


class Marks(unittest.TestCase):
    def test_items(self):
        region = Region(SPACE, [Z, X])
        marks, zeros = (Ratio(1), Ratio(0), Ratio(1)), (Ratio(0),) * 3
        self.assertEqual(count_of(region), Linear(SPACE, marks, zeros, zeros))
        self.assertEqual(sum_of(region), Linear(SPACE, zeros, marks, zeros))
        self.assertEqual(squares_of(region), Linear(SPACE, zeros, zeros, marks))
        for measure in (count_of(region), sum_of(region), squares_of(region)):
            self.assertEqual(measure.space, SPACE)

    def test_no_cells_and_all_cells(self):
        for made in (count_of, sum_of, squares_of):
            self.assertEqual(items(made(SPACE.empty())), [0] * 9)
            self.assertEqual(sum(items(made(SPACE.whole()))), 3)

    def test_values(self):
        table = Table(SPACE, [(X, 4, 2), (Y, -3, 1), (Z, 2, 3), (X, -1, 1)])
        region = Region(SPACE, [X, Y])
        self.assertEqual(count_of(region)(table), 4)
        self.assertEqual(sum_of(region)(table), 4)
        self.assertEqual(squares_of(region)(table), 42)

    def test_regions_without_a_common_cell(self):
        for many in range(4):
            for cells in itertools.combinations(SPACE.cells, many):
                one = Region(SPACE, cells)
                for made in (count_of, sum_of, squares_of):
                    self.assertEqual(made(one | ~one), made(one) + made(~one))
                    self.assertEqual(made(SPACE.whole()) - made(one), made(~one))


class Operators(unittest.TestCase):
    def test_items(self):
        source = random.Random(5)
        for _ in range(60):
            space = source.choice((SPACE, GRID))
            one, other = drawn_measure(source, space), drawn_measure(source, space)
            before = items(one), items(other)
            for join in (operator.add, operator.sub):
                both = join(one, other)
                self.assertIs(type(both), Linear)
                self.assertEqual(both.space, space)
                self.assertEqual(items(both), [join(a, b) for a, b in zip(*before)])
            self.assertEqual(items(-one), [-a for a in before[0]])
            for number in (0, 1, -1, 10 ** 40, -5, Ratio(0), Ratio(2, 3), Ratio(-7, 5)):
                wanted = [a * fraction(number) for a in before[0]]
                self.assertEqual(items(one * number), wanted)
                self.assertEqual(items(number * one), wanted)
                self.assertIs(type(number * one), Linear)
                if number != 0:
                    self.assertEqual(items(one.over(number)), [a / fraction(number) for a in before[0]])
            self.assertEqual((items(one), items(other)), before)

    def test_fields_stay_tuples_of_ratios(self):
        one = Linear(SPACE, [1, 2, 3], [4, 5, 6], [7, 8, 9])
        for made in (one + one, one - one, -one, one * 2, 2 * one, one * Ratio(1, 2), Ratio(1, 2) * one, one.over(3)):
            for numbers in (made.counts, made.sums, made.squares):
                self.assertIs(type(numbers), tuple)
                self.assertEqual({type(number) for number in numbers}, {Ratio})

    def test_over_zero(self):
        for measure in (count_of(SPACE.whole()), count_of(SPACE.empty())):
            for zero in (0, Ratio(0), Ratio(0, 5)):
                with self.assertRaises(NoRatio) as held:
                    measure.over(zero)
                self.assertEqual(held.exception.word, "zero")

    def test_over_by_keyword(self):
        self.assertEqual(count_of(SPACE.whole()).over(number=2), count_of(SPACE.whole()) * Ratio(1, 2))

    def test_other_space(self):
        one, other = count_of(SPACE.whole()), count_of(OTHER.whole())
        for join in (operator.add, operator.sub):
            for left, right in ((one, other), (other, one), (one, count_of(GRID.empty()))):
                with self.assertRaises(OtherSpace):
                    join(left, right)

    def test_in_place(self):
        one = held = count_of(SPACE.whole())
        one += sum_of(SPACE.whole())
        self.assertEqual(one, Linear(SPACE, [1] * 3, [1] * 3, [0] * 3))
        one -= count_of(SPACE.whole())
        self.assertEqual(one, sum_of(SPACE.whole()))
        one *= 3
        self.assertEqual(one, Linear(SPACE, [0] * 3, [3] * 3, [0] * 3))
        self.assertEqual(held, Linear(SPACE, [1] * 3, [0] * 3, [0] * 3))

    def test_value_of_a_combination(self):
        source = random.Random(6)
        for _ in range(30):
            one, other = drawn_measure(source, SPACE), drawn_measure(source, SPACE)
            table = drawn_table(source, SPACE)
            self.assertEqual((one * Ratio(2, 3) - other)(table), one(table) * Ratio(2, 3) - other(table))


if __name__ == "__main__":
    unittest.main()
