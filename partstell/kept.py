"""Values of a store's parts that are kept up to date, and what cannot be kept."""

from partstell.checks import ask_values, is_integer
from partstell.differing import FIRST_VALUES, MOST_SHOWN, SECOND_VALUES, independent_rows
from partstell.errors import NoMeasure, NoTaking
from partstell.linear import Linear
from partstell.measures import Least, Quotient, is_extreme, is_measure, joined_value
from partstell.tables import Table


def merged(store, values, more):
    """Give the values of the sum of two tables from those of the tables."""
    names = store.names()
    ask_values(names, values)
    ask_values(names, more)
    return {name: joined_value(store[name], [values[name], more[name]]) for name in names}


def after_put(store, values, cell, value, *, times=1):
    """Give the values behind so many rows that are put into a table."""
    ask_values(store.names(), values)
    return merged(store, values, store.part_values(Table(store.space, [(cell, value, times)])))


def after_taken(store, values, cell, value, *, times=1):
    """Give the values behind so many rows that are taken out of a table."""
    names = store.names()
    ask_values(names, values)
    taken = Table(store.space, [(cell, value, times)])
    for name in names:
        if may_change(store[name], values[name], cell, value):
            raise NoTaking(name)
    return {name: value_left(store[name], values[name], taken) for name in names}


def may_change(part, held, cell, value):
    """Tell whether a part, with this value, may change when a row is taken out."""
    if not is_extreme(part) or cell not in part.region:
        return False
    if not is_integer(held):
        return True
    return held >= value if isinstance(part, Least) else held <= value


def value_left(part, held, taken):
    """Give the value of a part behind rows that are taken out and do not change it, if it is extreme."""
    if isinstance(part, Linear):
        return joined_value(part, [held, -part(taken)])
    return held


def taking_twins(store):
    """Give a part whose value cannot be kept when a row is taken out, with what shows it, or None."""
    for name in store.names():
        part = store[name]
        if is_extreme(part) and len(part.region) > 0:
            cell = part.region.cells[0]
            sign = 1 if isinstance(part, Least) else -1
            one = hiding_table(store.space, cell, sign, FIRST_VALUES)
            other = hiding_table(store.space, cell, sign, SECOND_VALUES)
            return name, cell, -sign * MOST_SHOWN, one, other
    return None


def hiding_table(space, cell, sign, values):
    """Give a table with the values in one cell, and with a row behind which they do not show."""
    rows = [(cell, sign * value, 1) for value in values]
    return Table(space, [(cell, -sign * MOST_SHOWN, 1), *rows])


def merge_twins(measure):
    """Give two tables on which the measure is equal and a third one that parts them, or None."""
    if not is_measure(measure):
        raise NoMeasure()
    if isinstance(measure, Linear) or is_extreme(measure):
        return None
    if isinstance(measure, Quotient):
        # Once or twice the same row gives the same quotient. With a row of another proportion
        # added, it does not: the pairs of top and bottom point in unlike directions.
        first, second = independent_rows(measure)
        return lots(measure, (first, 1), (first, 2), (second, 1))
    if len(measure.region) == 0:
        return None
    # Rows of one value have the variance and the spread 0, whichever value it is.
    cell = measure.region.cells[0]
    return lots(measure, ((cell, 0), 1), ((cell, 1), 1), ((cell, 0), 1))


def lots(measure, *told):
    """Give the tuple of the tables that have one kind of rows each, so many times."""
    return tuple([Table(measure.space, [(cell, value, times)]) for (cell, value), times in told])
