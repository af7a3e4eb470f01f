"""What shows that a measure is told, and what shows that it is not."""

from partstell.checks import ask_values
from partstell.linear import Linear
from partstell.measures import Greatest, Least, joined_value, value_from
from partstell.ratios import Ratio


class Way:
    """A way to compute a measure from the values of parts."""

    def __init__(self, measure, pieces):
        self.measure = measure
        self.pieces = kept_pieces(pieces)

    def __eq__(self, other):
        return isinstance(other, Way) and self.measure == other.measure and self.pieces == other.pieces

    @property
    def used(self):
        """The names that occur in the pieces, ascending."""
        if isinstance(self.measure, (Linear, Least, Greatest)):
            names = list(self.pieces)
        else:
            names = [name for way in self.pieces for name in way.used]
        return tuple(sorted(set(names)))

    def answer(self, values):
        """Give the value of the measure that follows from these values of parts."""
        ask_values(self.used, values)
        if isinstance(self.measure, Linear):
            return combined_value(self.pieces, values)
        if isinstance(self.measure, (Least, Greatest)):
            return joined_value(self.measure, [values[name] for name in self.pieces])
        return value_from(self.measure, [way.answer(values) for way in self.pieces])


class Twins:
    """Two tables on which the parts of a store have equal values and a measure has not."""

    def __init__(self, one, other):
        self.one = one
        self.other = other

    def __eq__(self, other):
        return isinstance(other, Twins) and self.one == other.one and self.other == other.other


def kept_pieces(pieces):
    """Give what a way keeps of the pieces, so that later changes to them mean nothing."""
    if isinstance(pieces, dict):
        return {name: piece for name, piece in pieces.items()}
    if isinstance(pieces, list):
        return tuple(pieces)
    return pieces


def combined_value(pieces, values):
    """Give the sum of the values, each multiplied by its piece."""
    value = Ratio(0)
    for name, factor in pieces.items():
        value = value + factor * values[name]
    return value
