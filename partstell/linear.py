"""Linear measures: sums over all rows of a table."""

from partstell.checks import ask_same_space, is_sequence
from partstell.errors import NoLinear
from partstell.ratios import Ratio, as_ratio, is_operand


class Linear:
    """A linear measure; each of three fields has one Ratio for each cell of the space."""

    def __init__(self, space, counts, sums, squares):
        for word, numbers in (("counts", counts), ("sums", sums), ("squares", squares)):
            if not are_numbers(numbers, len(space.cells)):
                raise NoLinear(word)
        self.space = space
        self.counts = tuple([as_ratio(number) for number in counts])
        self.sums = tuple([as_ratio(number) for number in sums])
        self.squares = tuple([as_ratio(number) for number in squares])

    def __eq__(self, other):
        if not isinstance(other, Linear) or self.space != other.space:
            return False
        return self.counts == other.counts and self.sums == other.sums and self.squares == other.squares

    def __call__(self, table):
        ask_same_space(self, table)
        value = Ratio(0)
        for place, (number, total, squares) in enumerate(totals_of(table)):
            value = value + worth_at(self, place, number, total, squares)
        return value

    def __add__(self, other):
        if not isinstance(other, Linear):
            return NotImplemented
        ask_same_space(self, other)
        counts = added(self.counts, other.counts)
        sums = added(self.sums, other.sums)
        return Linear(self.space, counts, sums, added(self.squares, other.squares))

    def __sub__(self, other):
        if not isinstance(other, Linear):
            return NotImplemented
        return self + -other

    def __neg__(self):
        return self * -1

    def __mul__(self, other):
        if not is_operand(other):
            return NotImplemented
        counts = scaled(self.counts, other)
        sums = scaled(self.sums, other)
        return Linear(self.space, counts, sums, scaled(self.squares, other))

    def __rmul__(self, other):
        return self * other

    def over(self, number):
        """Give the measure with all items divided by a Ratio or an integer."""
        return self * Ratio(1).over(number)


def count_of(region):
    """Give the measure that is the number of rows of a region."""
    marks, zeros = marks_of(region)
    return Linear(region.space, marks, zeros, zeros)


def sum_of(region):
    """Give the measure that is the sum of the values of a region."""
    marks, zeros = marks_of(region)
    return Linear(region.space, zeros, marks, zeros)


def squares_of(region):
    """Give the measure that is the sum of the squares of the values of a region."""
    marks, zeros = marks_of(region)
    return Linear(region.space, zeros, zeros, marks)


def marks_of(region):
    """Give a list with 1 for each cell of the region and 0 for the others, and one with 0 for all."""
    cells = region.space.cells
    return [1 if cell in region else 0 for cell in cells], [0 for cell in cells]


def numbers_of(measure):
    """Give the items of all three fields in one tuple."""
    return measure.counts + measure.sums + measure.squares


def worth_at(measure, place, number, total, squares):
    """Give what rows of one cell, with this number, sum and sum of squares, add to the value."""
    return measure.counts[place] * number + measure.sums[place] * total + measure.squares[place] * squares


def totals_of(table):
    """Give the number, the sum and the sum of squares of the rows of each cell."""
    found = [(0, 0, 0) for cell in table.space.cells]
    for cell, value, times in table.rows:
        place = table.space.place_of(cell)
        number, total, squares = found[place]
        found[place] = (number + times, total + times * value, squares + times * value * value)
    return found


def are_numbers(thing, many):
    """Tell whether something is a sequence of so many Ratios or integers."""
    return is_sequence(thing) and len(thing) == many and all([is_operand(number) for number in thing])


def added(numbers, others):
    """Give the sums of the numbers that stand at the same places."""
    return [number + other for number, other in zip(numbers, others)]


def scaled(numbers, factor):
    """Give the numbers, each multiplied by the factor."""
    return [number * factor for number in numbers]
