"""What stored least and greatest values leave open."""

from partstell.checks import ask_same_space, ask_values
from partstell.errors import NotConsistent, NotExtreme
from partstell.measures import Least, greatest_of, is_extreme, is_measure, least_of
from partstell.tables import MOST_VALUE, Table

# RANGES are a dict from each open cell to the pair of its floor and its ceiling.


def consistent(store, values):
    """Tell whether some table has these values."""
    ask_extremes(store)
    ask_values(store.names(), values)
    return can_fit(store, values, ranges_of(store, values))


def left(store, values, measure):
    """Give the outer and the inner bound of a measure on the tables that have these values."""
    ranges = fitting_ranges(store, values, measure)
    pinned = [values[name] for name, cells in servers_of(store, values, ranges) if lie_in(cells, measure.region)]
    return end_of(measure, ends_in(measure, ranges)), end_of(measure, pinned)


def settled(store, values, measure):
    """Tell whether the measure has the same value on all tables that have these values."""
    outer, inner = left(store, values, measure)
    return outer == inner


def left_tables(store, values, measure):
    """Give two tables with these values on which the measure has its outer and its inner bound."""
    ranges = fitting_ranges(store, values, measure)
    rows = []
    for name, cells in servers_of(store, values, ranges):
        outside = [cell for cell in cells if cell not in measure.region]
        chosen = outside + cells
        rows.append((chosen[0], values[name], 1))
    outer = end_of(measure, ends_in(measure, ranges))
    ends = [(cell, end_at(measure, ranges, cell), 1) for cell in measure.region.cells if cell in ranges]
    far = [row for row in ends if row[1] == outer]
    return Table(store.space, rows + far), Table(store.space, rows)


def ask_extremes(store):
    """Refuse a store with a part that is neither least nor greatest."""
    for name in store.names():
        if not is_extreme(store[name]):
            raise NotExtreme(name)


def fitting_ranges(store, values, measure):
    """Give the ranges, or refuse what does not go together."""
    if is_measure(measure):
        ask_same_space(store, measure)
    ask_extremes(store)
    if not is_extreme(measure):
        raise NotExtreme(None)
    ask_values(store.names(), values)
    ranges = ranges_of(store, values)
    if not can_fit(store, values, ranges):
        raise NotConsistent()
    return ranges


def ranges_of(store, values):
    """Give the ranges that the values leave."""
    found = {}
    for cell in store.space.cells:
        names = [name for name in store.names() if cell in store[name].region]
        known = [name for name in names if values[name] is not None]
        lows = [values[name] for name in known if isinstance(store[name], Least)]
        highs = [values[name] for name in known if not isinstance(store[name], Least)]
        low = greatest_of([-MOST_VALUE, *lows])
        high = least_of([MOST_VALUE, *highs])
        if len(known) == len(names) and low <= high:
            found[cell] = (low, high)
    return found


def can_fit(store, values, ranges):
    """Tell whether each part that has a value is served by a cell."""
    return all([len(cells) > 0 for name, cells in servers_of(store, values, ranges)])


def servers_of(store, values, ranges):
    """Give, for each part that has a value, its name and the list of the cells that serve it."""
    known = [name for name in store.names() if values[name] is not None]
    return [(name, cells_serving(store[name], values[name], ranges)) for name in known]


def cells_serving(part, value, ranges):
    """Give the cells in which the value of a part may stand."""
    return [cell for cell in part.region.cells if end_at(part, ranges, cell) == value]


def end_at(measure, ranges, cell):
    """Give the floor of a cell for a least measure, its ceiling for a greatest one; None if it is closed."""
    if cell not in ranges:
        return None
    low, high = ranges[cell]
    return low if isinstance(measure, Least) else high


def ends_in(measure, ranges):
    """Give the floors, or else the ceilings, of the open cells in the measure's region."""
    return [end_at(measure, ranges, cell) for cell in measure.region.cells if cell in ranges]


def end_of(measure, numbers):
    """Give the least number for a least measure, the greatest one for a greatest measure, or None."""
    return least_of(numbers) if isinstance(measure, Least) else greatest_of(numbers)


def lie_in(cells, region):
    """Tell whether all of these cells are in the region."""
    return all([cell in region for cell in cells])
