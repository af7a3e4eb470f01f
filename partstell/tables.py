"""Tables: rows with whole numbers in the cells of a space."""

from partstell.checks import ask_same_space, is_integer, is_sequence
from partstell.errors import NoCell, NoRows, NoTable

MOST_ROWS = 500
MOST_VALUE = 10 ** 30


class Checked:
    """Rows that need no check any more, of which there may be more than MOST_ROWS."""

    def __init__(self, rows):
        self.rows = rows


class Table:
    """A table; the field `rows` has one triple for each cell and value with rows, ascending."""

    # What `+`, `put` and `without` make may have more rows than a caller may pass:
    # they pass Checked rows.
    def __init__(self, space, rows=()):
        if isinstance(rows, Checked):
            given = rows.rows
        else:
            check_rows(space, rows)
            given = rows
        self.space = space
        self.rows = joined_rows(space, given)

    def __eq__(self, other):
        return isinstance(other, Table) and self.space == other.space and self.rows == other.rows

    def __len__(self):
        return len(self.rows)

    def __getitem__(self, at):
        if at not in self.space.cells:
            raise NoCell(at)
        return tuple([(value, times) for cell, value, times in self.rows if cell == at])

    # Without this, Python would iterate over a table by asking for the cells 0, 1, 2 ..
    def __iter__(self):
        raise TypeError("a table is not iterated over: take rows or each_row()")

    def __add__(self, other):
        if not isinstance(other, Table):
            return NotImplemented
        ask_same_space(self, other)
        return Table(self.space, Checked(self.rows + other.rows))

    def size(self):
        """Give the number of rows, each as often as its times say."""
        return sum([times for cell, value, times in self.rows])

    def each_row(self):
        """Yield the triples in order."""
        yield from self.rows

    def put(self, cell, value, *, times=1):
        """Give a new table with so many more rows of this value in the cell."""
        check_row(self.space, cell, value, times)
        return Table(self.space, Checked((*self.rows, (cell, value, times))))

    def without(self, cell, value, *, times=1):
        """Give a new table with so many fewer rows of this value in the cell."""
        check_row(self.space, cell, value, times)
        held = sum([many for worth, many in self[cell] if worth == value])
        if held < times:
            raise NoRows(cell, value)
        rows = [row for row in self.rows if row[0] != cell or row[1] != value]
        if held > times:
            rows.append((cell, value, held - times))
        return Table(self.space, Checked(rows))


def is_table_over(space, thing):
    """Tell whether something is a table over a space that is equal to this one."""
    return isinstance(thing, Table) and thing.space == space


def check_rows(space, rows):
    """Refuse rows of which no table can be made."""
    if not is_sequence(rows) or len(rows) > MOST_ROWS:
        raise NoTable(-1, "rows")
    for place, row in enumerate(rows):
        if not is_sequence(row) or len(row) != 3:
            raise NoTable(place, "row")
        cell, value, times = row
        word = wrong_word(space, cell, value, times)
        if word is not None:
            raise NoTable(place, word)


def check_row(space, cell, value, times):
    """Refuse a cell, a value or a number of times that no row has."""
    word = wrong_word(space, cell, value, times)
    if word is not None:
        raise NoTable(0, word)


def wrong_word(space, cell, value, times):
    """Give the word for the first thing that no row has, or None."""
    if cell not in space.cells:
        return "cell"
    if not is_integer(value) or not -MOST_VALUE <= value <= MOST_VALUE:
        return "value"
    if not is_integer(times) or times < 1:
        return "times"
    return None


def joined_rows(space, rows):
    """Give one triple for each cell and value, ascending by place, then by value."""
    found = {}
    for cell, value, times in rows:
        key = (space.cells.index(cell), value)
        found[key] = found.get(key, 0) + times
    joined = []
    for place, cell in enumerate(space.cells):
        for value in sorted([int(worth) for at, worth in found if at == place]):
            joined.append((cell, value, found[(place, value)]))
    return tuple(joined)
