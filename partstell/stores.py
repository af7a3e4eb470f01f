"""Stores: parts under names, whose values are kept."""

from partstell.checks import ask_same_space, is_name
from partstell.errors import Full, NoName, NoPart, NoSuch
from partstell.linear import Linear
from partstell.measures import Greatest, Least
from partstell.telling import tells

MOST_PARTS = 16


class Store:
    """A store of linear, least and greatest measures, each under a name."""

    def __init__(self, space):
        self.space = space
        self.parts = {}

    def __eq__(self, other):
        return isinstance(other, Store) and self.space == other.space and self.parts == other.parts

    def __len__(self):
        return len(self.parts)

    def __contains__(self, x):
        return is_name(x) and x in self.parts

    def __getitem__(self, at):
        if at not in self:
            raise NoSuch(at)
        return self.parts[at]

    def __setitem__(self, at, worth):
        if not is_name(at):
            raise NoName(at)
        if not is_part(worth):
            raise NoPart()
        ask_same_space(self, worth)
        if at not in self.parts and len(self.parts) >= MOST_PARTS:
            raise Full(MOST_PARTS + 1)
        self.parts[at] = worth

    def __le__(self, other):
        ask_same_space(self, other)
        return all([tells(other, self.parts[name]) for name in self.parts])

    def __lt__(self, other):
        return self <= other and not other <= self

    def __ge__(self, other):
        return other <= self

    def __gt__(self, other):
        return other < self

    # Without this, Python would iterate over a store by asking for the parts 0, 1, 2 ..
    def __iter__(self):
        raise TypeError("a store is not iterated over: take names()")

    def drop(self, name):
        """Remove the part of this name."""
        if name not in self:
            raise NoSuch(name)
        del self.parts[name]

    def names(self):
        """Give the list of the names, ascending."""
        return sorted([str(name) for name in self.parts])

    def copy(self):
        """Give a new store with the same parts."""
        other = Store(self.space)
        other.parts = dict(self.parts)
        return other

    def part_values(self, table):
        """Give a dict from each name to the value of its part on the table."""
        ask_same_space(self, table)
        return {name: part(table) for name, part in self.parts.items()}


def is_part(thing):
    """Tell whether something is a measure that a store can hold."""
    return isinstance(thing, (Linear, Least, Greatest))
