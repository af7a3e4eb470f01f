"""Spaces, stores, measures and tables for the tests, and what the document says of them by its plain rules."""

import itertools
from fractions import Fraction

from partstell.linear import Linear, count_of, squares_of, sum_of
from partstell.measures import Greatest, Least, Quotient, Spread, Variance
from partstell.ratios import Ratio
from partstell.regions import Region
from partstell.spaces import Space
from partstell.stores import Store
from partstell.tables import Table

SMALL = Space([("a", ("x", "y"))])
LINE = Space([("a", ("x", "y", "z", "w"))])
GRID = Space([("a", ("x", "y")), ("b", ("u", "v", "w"))])
LARGE = Space([("a", ("x", "y", "z")), ("b", ("u", "v")), ("c", ("p", "q")), ("d", ("m", "n"))])
OTHER = Space([("a", ("x", "q"))])
MARKS = (count_of, sum_of, squares_of)
EXTREMES = (Least, Greatest)
KINDS = (Linear, Least, Greatest, Quotient, Variance, Spread)


def store_of(space, *parts, **named):
    store = Store(space)
    for number, part in enumerate(parts):
        store[f"p{number}"] = part
    for name, part in named.items():
        store[name] = part
    return store


def all_regions(space):
    for many in range(len(space.cells) + 1):
        for cells in itertools.combinations(space.cells, many):
            yield Region(space, cells)


def drawn_region(source, space):
    return Region(space, source.sample(space.cells, source.randint(0, len(space.cells))))


def drawn_number(source):
    return source.choice((0, 0, 0, 1, -1, 2, Ratio(1, 3), Ratio(-7, 5), 10 ** 25))


def drawn_linear(source, space):
    if source.random() < 0.5:
        return source.choice(MARKS)(drawn_region(source, space))
    return Linear(space, *([drawn_number(source) for _ in space.cells] for _ in range(3)))


def drawn_marks(source, space):
    return source.choice(MARKS + EXTREMES)(drawn_region(source, space))


def drawn_part(source, space):
    if source.random() < 0.5:
        return drawn_linear(source, space)
    return source.choice(EXTREMES)(drawn_region(source, space))


def drawn_store(source, space, draw=drawn_part, most=8):
    parts = [draw(source, space) for _ in range(source.randint(0, most))]
    for _ in range(source.randint(0, 3)):
        parts.append(source.choice([*parts, draw(source, space)]))
    return store_of(space, *parts)


def drawn_combination(source, store):
    """Give a measure that the linear parts tell."""
    total = count_of(store.space.empty())
    for name in store.names():
        if isinstance(store[name], Linear):
            total = total + store[name] * drawn_number(source)
    return total


def drawn_measure(source, store, draw=drawn_linear):
    """Give a measure of any of the classes, often one that the store tells."""
    space = store.space
    kind = source.randint(0, 7)
    if kind == 0:
        return drawn_combination(source, store)
    if kind == 1:
        return draw(source, space)
    if kind in (2, 3):
        regions = [store[name].region for name in store.names() if not isinstance(store[name], Linear)]
        region = drawn_region(source, space)
        for part in regions:
            if source.random() < 0.5:
                region = region | part
        return (Least, Greatest)[kind - 2](region)
    if kind == 4:
        return Variance(drawn_region(source, space))
    if kind == 5:
        return Spread(drawn_region(source, space))
    pair = [source.choice((draw(source, space), drawn_combination(source, store))) for _ in range(2)]
    if not are_parallel(*map(items, pair)):
        return Quotient(*pair)
    return Variance(space.empty())


def drawn_table(source, space):
    rows = [
        (source.choice(space.cells), source.randint(-3, 3), source.randint(1, 4))
        for _ in range(source.randint(0, 2 * len(space.cells)))
    ]
    return Table(space, rows)


def fraction(number):
    return Fraction(number.top, number.bottom)


def items(measure):
    return [fraction(number) for number in measure.counts + measure.sums + measure.squares]


def are_parallel(one, other):
    return rank([one, other]) < 2


def rank(rows):
    """Give the number of independent rows, by plain elimination with fractions."""
    rows = [list(row) for row in rows]
    found = 0
    for place in range(len(rows[0]) if rows else 0):
        pivot = next((row for row in rows[found:] if row[place] != 0), None)
        if pivot is None:
            continue
        rows.remove(pivot)
        rows.insert(found, pivot)
        found += 1
        for number in range(found, len(rows)):
            factor = rows[number][place] / pivot[place]
            if factor != 0:
                rows[number] = [one - factor * other if other else one for one, other in zip(rows[number], pivot)]
    return found


def named_measures(measure):
    if isinstance(measure, Quotient):
        return [measure.top, measure.bottom]
    region = measure.region
    if isinstance(measure, Variance):
        return [squares_of(region), sum_of(region), count_of(region)]
    return [Greatest(region), Least(region)]


def is_told(store, measure):
    """Tell, by the rules of the document, whether a store tells a measure."""
    parts = [store[name] for name in store.names()]
    if isinstance(measure, Linear):
        rows = [items(part) for part in parts if isinstance(part, Linear)]
        return rank(rows) == rank([*rows, items(measure)])
    if isinstance(measure, (Least, Greatest)):
        regions = [set(part.region.cells) for part in parts if type(part) is type(measure)]
        cells = set(measure.region.cells)
        return set().union(*(region for region in regions if region <= cells)) == cells
    return all(is_told(store, each) for each in named_measures(measure))


def trimmed_names(store):
    """Give, by the rules of the document, the names that are kept."""
    kept = []
    rows = []
    for name in store.names():
        part = store[name]
        if isinstance(part, Linear):
            if rank([*rows, items(part)]) > len(rows):
                rows.append(items(part))
                kept.append(name)
            continue
        cells = set(part.region.cells)
        like = {other: set(store[other].region.cells) for other in store.names() if type(store[other]) is type(part)}
        twice = any(region == cells for other, region in like.items() if other < name)
        if not twice and set().union(*(region for region in like.values() if region < cells)) != cells:
            kept.append(name)
    return kept


def inside_names(store, measure):
    return [
        name for name in trimmed_names(store)
        if type(store[name]) is type(measure) and store[name].region <= measure.region
    ]
