"""Measures, stores and tables as texts."""

from partstell.errors import BadLine, BadText, Full, NoMeasure, NoQuotient
from partstell.kinds import REGION_KINDS, measure_of_kind
from partstell.linear import Linear
from partstell.measures import Greatest, Least, Quotient, Variance, is_measure
from partstell.stores import MOST_PARTS, Store, is_part
from partstell.tables import MOST_VALUE, Checked, Table
from partstell.words import Reader, cell_word, region_word


def measure_text(measure):
    """Give the text of a measure."""
    if not is_measure(measure):
        raise NoMeasure()
    if isinstance(measure, Linear):
        return linear_text(measure)
    if isinstance(measure, Quotient):
        return f"quotient {linear_text(measure.top)} over {linear_text(measure.bottom)}"
    return f"{kind_word(measure)} {region_word(measure.region.cells)}"


def read_measure(space, text):
    """Give the measure of which this is a text."""
    return read_words(space, text.split(" "), 0)


def store_text(store):
    """Give the list of lines for the parts of a store, ascending by name."""
    return [f"{name} {measure_text(store[name])}" for name in store.names()]


def read_store(space, lines):
    """Give the store of these lines."""
    if len(lines) > MOST_PARTS:
        raise Full(len(lines))
    store = Store(space)
    for number, line in enumerate(lines):
        try:
            name, part = read_part(store, line)
        except BadText as e:
            raise BadLine(number, e.place)
        except NoQuotient:
            raise BadLine(number, 1)
        store[name] = part
    return store


def table_text(table):
    """Give the list of lines for the rows of a table."""
    return [f"{cell_word(cell)} {value} {times}" for cell, value, times in table.rows]


def read_table(space, lines):
    """Give the table of these lines."""
    rows = []
    for number, line in enumerate(lines):
        try:
            rows.append(read_row(space, line.split(" "), 0))
        except BadText as e:
            raise BadLine(number, e.place)
    return Table(space, Checked(rows))


def kind_word(measure):
    """Give the word for the kind of a measure of a region."""
    if isinstance(measure, Least):
        return "least"
    if isinstance(measure, Greatest):
        return "greatest"
    return "variance" if isinstance(measure, Variance) else "spread"


def linear_text(measure):
    """Give the text of a linear measure."""
    terms = []
    for kind, numbers in (("count", measure.counts), ("sum", measure.sums), ("squares", measure.squares)):
        for ratio in unlike_numbers(numbers):
            cells = [cell for cell, number in zip(measure.space.cells, numbers) if number == ratio]
            terms.append(f"{ratio.text()} {kind} {region_word(cells)}")
    return "zero" if len(terms) == 0 else " plus ".join(terms)


def unlike_numbers(numbers):
    """Give the Ratios other than 0 among these, each once, ascending."""
    found = []
    for number in numbers:
        if number != 0 and number not in found:
            place = len([each for each in found if each < number])
            found.insert(place, number)
    return found


def read_words(space, words, start):
    """Give the measure of the words from this place on."""
    reader = Reader(space, words, start)
    if reader.ahead() in REGION_KINDS:
        kind = reader.take_one_of(REGION_KINDS)
        region = reader.take_region()
        reader.take_end()
        return measure_of_kind(kind, region)
    if reader.ahead() != "quotient":
        measure = reader.take_linear()
        reader.take_end()
        return measure
    reader.take_one_of(("quotient",))
    top = reader.take_linear()
    reader.take_one_of(("over",))
    bottom = reader.take_linear()
    reader.take_end()
    return Quotient(top, bottom)


def read_part(store, line):
    """Give the name and the part of a line for the store, in which no part has this name so far."""
    words = line.split(" ")
    name = Reader(store.space, words, 0).take_name()
    if name in store:
        raise BadText(0)
    part = read_words(store.space, words, 1)
    if not is_part(part):
        raise BadText(1)
    return name, part


def read_row(space, words, start):
    """Give the cell, the value and the times of the words from this place on."""
    reader = Reader(space, words, start)
    row = (reader.take_cell(), reader.take_integer(-MOST_VALUE, MOST_VALUE), reader.take_integer(1, None))
    reader.take_end()
    return row
