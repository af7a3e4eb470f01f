"""Least and greatest values, spreads, quotients and variances."""

from partstell.checks import ask_same_space
from partstell.errors import NoQuotient
from partstell.linear import Linear, count_of, numbers_of, squares_of, sum_of
from partstell.ratios import Ratio


class Least:
    """The least value of the rows of a region."""

    def __init__(self, region):
        self.region = region
        self.space = region.space

    def __eq__(self, other):
        return isinstance(other, Least) and self.region == other.region

    def __call__(self, table):
        ask_same_space(self, table)
        return least_of(values_in(self.region, table))


class Greatest:
    """The greatest value of the rows of a region."""

    def __init__(self, region):
        self.region = region
        self.space = region.space

    def __eq__(self, other):
        return isinstance(other, Greatest) and self.region == other.region

    def __call__(self, table):
        ask_same_space(self, table)
        return greatest_of(values_in(self.region, table))


class Spread:
    """The greatest value of the rows of a region less the least one."""

    def __init__(self, region):
        self.region = region
        self.space = region.space

    def __eq__(self, other):
        return isinstance(other, Spread) and self.region == other.region

    def __call__(self, table):
        return value_from(self, [measure(table) for measure in measures_under(self)])


class Quotient:
    """One linear measure divided by another one, none of them a multiple of the other."""

    def __init__(self, top, bottom):
        ask_same_space(top, bottom)
        if are_proportional(numbers_of(top), numbers_of(bottom)):
            raise NoQuotient()
        self.top = top
        self.bottom = bottom
        self.space = top.space

    def __eq__(self, other):
        return isinstance(other, Quotient) and self.top == other.top and self.bottom == other.bottom

    def __call__(self, table):
        return value_from(self, [measure(table) for measure in measures_under(self)])


class Variance:
    """The mean of the squares of a region less the square of the mean."""

    def __init__(self, region):
        self.region = region
        self.space = region.space

    def __eq__(self, other):
        return isinstance(other, Variance) and self.region == other.region

    def __call__(self, table):
        return value_from(self, [measure(table) for measure in measures_under(self)])


def mean_of(region):
    """Give the measure that is the mean of the values of a region."""
    return Quotient(sum_of(region), count_of(region))


def is_extreme(thing):
    """Tell whether something is a least or greatest measure."""
    return isinstance(thing, (Least, Greatest))


def is_measure(thing):
    """Tell whether something is a measure."""
    return is_extreme(thing) or isinstance(thing, (Linear, Quotient, Variance, Spread))


def base_measures(measure):
    """Give the linear, least and greatest measures on which the value of a measure rests."""
    if isinstance(measure, Linear) or is_extreme(measure):
        return (measure,)
    return measures_under(measure)


def measures_under(measure):
    """Give the measures on which the value of a quotient, a variance or a spread rests."""
    if isinstance(measure, Quotient):
        return (measure.top, measure.bottom)
    if isinstance(measure, Variance):
        return (squares_of(measure.region), sum_of(measure.region), count_of(measure.region))
    return (Greatest(measure.region), Least(measure.region))


def value_from(measure, values):
    """Give the value of a quotient, a variance or a spread from those of the measures under it."""
    if isinstance(measure, Quotient):
        top, bottom = values
        return None if bottom == 0 else top.over(bottom)
    if isinstance(measure, Variance):
        squares, total, number = values
        return None if number == 0 else squares.over(number) - total.over(number) ** 2
    greatest, least = values
    return None if greatest is None or least is None else greatest - least


def joined_value(measure, values):
    """Give the value of a linear, least or greatest measure on rows that are in several lots.

    The values are those on each lot.
    """
    if isinstance(measure, Linear):
        total = Ratio(0)
        for value in values:
            total = total + value
        return total
    known = [value for value in values if value is not None]
    return least_of(known) if isinstance(measure, Least) else greatest_of(known)


def values_in(region, table):
    """Give the list of the values that stand in the cells of the region."""
    return [value for cell, value, times in table.rows if cell in region]


def least_of(values):
    """Give the least of a list of integers, or None if it is empty."""
    return None if len(values) == 0 else min([int(value) for value in values])


def greatest_of(values):
    """Give the greatest of a list of integers, or None if it is empty."""
    return None if len(values) == 0 else max([int(value) for value in values])


def are_proportional(numbers, others):
    """Tell whether one of two rows of Ratios is a multiple of the other one."""
    places = [place for place, other in enumerate(others) if other != 0]
    if len(places) == 0:
        return True
    at = places[0]
    return all([number * others[at] == other * numbers[at] for number, other in zip(numbers, others)])
