"""Which measures a store tells, with what shows it."""

from partstell.checks import ask_same_space
from partstell.combining import basis_of, shares_of, witness_of
from partstell.differing import extreme_tables, linear_tables, mixed_tables
from partstell.linear import Linear, numbers_of
from partstell.measures import Greatest, Least, Spread, measures_under
from partstell.ratios import Ratio
from partstell.tables import is_table_over
from partstell.ways import Twins, Way


def tells(store, measure):
    """Tell whether the values of the parts determine the measure."""
    ask_same_space(store, measure)
    if isinstance(measure, Linear):
        return shares_of(vectors_of(store), numbers_of(measure)) is not None
    if isinstance(measure, (Least, Greatest)):
        return len(cells_left(store, measure)) == 0
    return all([tells(store, each) for each in measures_under(measure)])


def trimmed(store):
    """Give the list of the names of parts without which the store tells less."""
    linear = linear_names(store)
    basis, places = basis_of(vectors_of(store))
    kept = [linear[place] for place in places]
    return [name for name in store.names() if name in kept or is_kept_extreme(store, name)]


def way_of(store, measure):
    """Give a way to compute the measure from the parts, or None if the store does not tell it."""
    if not tells(store, measure):
        return None
    if isinstance(measure, Linear):
        shares = shares_of(vectors_of(store), numbers_of(measure))
        return Way(measure, {name: share for name, share in zip(linear_names(store), shares) if share != 0})
    if isinstance(measure, (Least, Greatest)):
        kept = trimmed(store)
        return Way(measure, tuple([name for name in names_inside(store, measure) if name in kept]))
    return Way(measure, tuple([way_of(store, each) for each in measures_under(measure)]))


def twins_of(store, measure):
    """Give two tables that show that the store does not tell the measure, or None if it does."""
    if tells(store, measure):
        return None
    one, other = tables_apart(store, measure)
    return Twins(one, other)


def check_way(store, measure, candidate):
    """Tell whether something is a way for the measure that is right for the store."""
    ask_same_space(store, measure)
    if not isinstance(candidate, Way) or candidate.measure != measure:
        return False
    pieces = candidate.pieces
    if isinstance(measure, Linear):
        return is_combination(store, measure, pieces)
    if isinstance(measure, (Least, Greatest)):
        return is_cover(store, measure, pieces)
    below = measures_under(measure)
    if not isinstance(pieces, tuple) or len(pieces) != len(below):
        return False
    return all([check_way(store, each, piece) for each, piece in zip(below, pieces)])


def check_twins(store, measure, candidate):
    """Tell whether something is twins that show that the store does not tell the measure."""
    ask_same_space(store, measure)
    if not isinstance(candidate, Twins):
        return False
    one, other = candidate.one, candidate.other
    if not is_table_over(store.space, one) or not is_table_over(store.space, other):
        return False
    return store.part_values(one) == store.part_values(other) and measure(one) != measure(other)


def tables_apart(store, measure):
    """Give two tables on which all parts are equal and the measure, which is not told, is unlike."""
    if isinstance(measure, Linear):
        return linear_tables(store.space, witness_of(vectors_of(store), numbers_of(measure)))
    if isinstance(measure, (Least, Greatest)):
        return extreme_tables(measure, cells_left(store, measure)[0])
    untold = [each for each in measures_under(measure) if not tells(store, each)]
    one, other = tables_apart(store, untold[0])
    if isinstance(measure, Spread):
        return one, other
    return mixed_tables(measure, one, other)


def linear_names(store):
    """Give the names of the linear parts, ascending."""
    return [name for name in store.names() if isinstance(store[name], Linear)]


def vectors_of(store):
    """Give the items of the linear parts, in the order of their names."""
    return [numbers_of(store[name]) for name in linear_names(store)]


def is_like(part, measure):
    """Tell whether both are least measures, or both greatest ones."""
    if isinstance(part, Least):
        return isinstance(measure, Least)
    return isinstance(part, Greatest) and isinstance(measure, Greatest)


def names_inside(store, measure):
    """Give the names of the parts of the measure's kind whose regions lie in its region."""
    alike = [name for name in store.names() if is_like(store[name], measure)]
    return [name for name in alike if store[name].region <= measure.region]


def cells_left(store, measure):
    """Give the cells of a least or greatest measure that no part inside its region has."""
    names = names_inside(store, measure)
    return [cell for cell in measure.region.cells if not any([cell in store[name].region for name in names])]


def is_kept_extreme(store, name):
    """Tell whether a part is a least or greatest one that the others cannot replace."""
    part = store[name]
    if isinstance(part, Linear):
        return False
    inside = names_inside(store, part)
    if any([store[other].region == part.region for other in inside if other < name]):
        return False
    smaller = [store[other].region for other in inside if store[other].region < part.region]
    return any([not any([cell in region for region in smaller]) for cell in part.region.cells])


def is_combination(store, measure, pieces):
    """Tell whether pieces are right for a linear measure."""
    if not isinstance(pieces, dict):
        return False
    total = measure * 0
    for name, factor in pieces.items():
        if name not in store or not isinstance(store[name], Linear):
            return False
        if not isinstance(factor, Ratio) or factor == 0:
            return False
        total = total + store[name] * factor
    return total == measure


def is_cover(store, measure, pieces):
    """Tell whether pieces are right for a least or greatest measure."""
    if not isinstance(pieces, tuple):
        return False
    inside = names_inside(store, measure)
    if not all([piece in inside for piece in pieces]) or list(pieces) != sorted(set(pieces)):
        return False
    regions = [store[name].region for name in pieces]
    return all([any([cell in region for region in regions]) for cell in measure.region.cells])
