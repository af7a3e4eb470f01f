"""Stores compared by what they tell."""

from partstell.checks import ask_same_space
from partstell.errors import Full, Twice
from partstell.stores import MOST_PARTS
from partstell.telling import tells, twins_of


def alike(one, other):
    """Tell whether two stores tell the same measures."""
    return one <= other and other <= one


def joined(one, other):
    """Give a new store with the parts of both."""
    ask_same_space(one, other)
    for name in one.names():
        if name in other and one[name] != other[name]:
            raise Twice(name)
    more = [name for name in other.names() if name not in one]
    many = len(one) + len(more)
    if many > MOST_PARTS:
        raise Full(many)
    both = one.copy()
    for name in more:
        both[name] = other[name]
    return both


def parting(one, other):
    """Give the side, the name and the twins of a part that the other store does not tell, or None."""
    ask_same_space(one, other)
    for side, holder, teller in (("left", one, other), ("right", other, one)):
        for name in holder.names():
            twins = twins_of(teller, holder[name])
            if twins is not None:
                return side, name, twins
    return None


def needless(store):
    """Give the list of the names of the parts that the other parts tell."""
    return [name for name in store.names() if tells(store_without(store, name), store[name])]


def store_without(store, name):
    """Give a copy of the store without the part of this name."""
    rest = store.copy()
    rest.drop(name)
    return rest
