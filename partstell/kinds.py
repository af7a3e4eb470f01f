"""Measures of a region by the word for their kind."""

from partstell.linear import count_of, squares_of, sum_of
from partstell.measures import Greatest, Least, Spread, Variance

LINEAR_KINDS = ("count", "sum", "squares")
EXTREME_KINDS = ("least", "greatest")
REGION_KINDS = ("least", "greatest", "variance", "spread")


def measure_of_kind(kind, region):
    """Give the measure of one of the kinds above of a region."""
    if kind == "count":
        return count_of(region)
    if kind == "sum":
        return sum_of(region)
    if kind == "squares":
        return squares_of(region)
    if kind == "least":
        return Least(region)
    if kind == "greatest":
        return Greatest(region)
    if kind == "variance":
        return Variance(region)
    return Spread(region)
