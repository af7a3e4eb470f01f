"""Pairs of tables on which a measure has unlike values, while chosen other ones have equal ones."""

from partstell.linear import worth_at
from partstell.measures import Least, Quotient
from partstell.tables import Table

# Each of these two has four rows, with the sum 18 and the sum of squares 122.
FIRST_VALUES = (0, 4, 5, 9)
SECOND_VALUES = (1, 2, 6, 9)
MOST_SHOWN = 9
# Of each kind of row, 0 to 3 are added: the places where a quotient or a variance stays equal
# lie on curves of so low a degree that they do not cover a grid of this width.
GRID_WIDTH = 4


def linear_tables(space, changes):
    """Give two tables whose numbers, sums and sums of squares differ by even integers.

    The changes are those of the numbers of all cells, then those of the sums, then those of the
    sums of squares. All least and greatest values are equal.
    """
    many = len(space.cells)
    one = [(cell, value, 1) for cell in space.cells for value in (-2, 2)]
    other = list(one)
    for place, cell in enumerate(space.cells):
        number = changes[place]
        total = changes[many + place]
        squares = changes[2 * many + place]
        for value, times in ((1, (squares + total) // 2), (-1, (squares - total) // 2), (0, number - squares)):
            if times > 0:
                one.append((cell, value, times))
            if times < 0:
                other.append((cell, value, -times))
    return Table(space, one), Table(space, other)


def extreme_tables(measure, cell):
    """Give two tables on which a least or greatest measure is unlike because of one cell.

    All linear measures are equal on them, and so are the least or greatest values of each
    region that lacks this cell of the measure's region, or has a cell outside of it.
    """
    sign = 1 if isinstance(measure, Least) else -1
    around = []
    for other in measure.space.cells:
        if other not in measure.region:
            around.append((other, -MOST_SHOWN, 1))
            around.append((other, MOST_SHOWN, 1))
        elif other != cell:
            around.append((other, sign * MOST_SHOWN, 1))
    first = [(cell, sign * value, 1) for value in FIRST_VALUES]
    second = [(cell, sign * value, 1) for value in SECOND_VALUES]
    return Table(measure.space, first + around), Table(measure.space, second + around)


def mixed_tables(measure, one, other):
    """Add the same rows to two tables, on which a measure under a quotient or a variance is unlike.

    On the tables that are returned the quotient or the variance itself is unlike.
    """
    kinds = independent_rows(measure) if isinstance(measure, Quotient) else variance_rows(measure)
    step = 0
    more = Table(measure.space)
    while measure(one + more) == measure(other + more):
        step += 1
        more = grid_table(measure.space, kinds, step)
    return one + more, other + more


def grid_table(space, kinds, step):
    """Give the table with 0 to 3 rows of each kind that has this number in the grid of all."""
    rows = []
    for cell, value in kinds:
        if step % GRID_WIDTH > 0:
            rows.append((cell, value, step % GRID_WIDTH))
        step = step // GRID_WIDTH
    return Table(space, rows)


def variance_rows(measure):
    """Give three kinds of rows of the region, with values that change all that the variance rests on."""
    cell = measure.region.cells[0]
    return [(cell, 0), (cell, 1), (cell, 2)]


def independent_rows(measure):
    """Give two kinds of rows of which each changes top and bottom in another proportion."""
    found = []
    for place, cell in enumerate(measure.space.cells):
        for value in (0, 1, 2):
            top = worth_at(measure.top, place, 1, value, value * value)
            bottom = worth_at(measure.bottom, place, 1, value, value * value)
            if top != 0 or bottom != 0:
                found.append((cell, value, top, bottom))
    cell, value, top, bottom = found[0]
    others = [(at, worth) for at, worth, upper, lower in found if upper * bottom != lower * top]
    return [(cell, value), others[0]]
