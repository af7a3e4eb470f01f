"""The lines of the desk: what their words stand for, and what they change and ask."""

from partstell.compared import needless
from partstell.errors import BadText, NoCommand
from partstell.leftopen import left
from partstell.ratios import Ratio
from partstell.telling import tells, trimmed, twins_of
from partstell.texts import read_row, read_words, table_text
from partstell.words import Reader

CHANGES = ("part", "drop", "put", "take")
ASKED_OF_MEASURE = ("ask", "left")
COMMANDS = ("undo", "redo", "names", "values", "trimmed", "needless", "size")


def read_command(space, line):
    """Give the first word of a line and the tuple of what the words behind it stand for."""
    words = line.split(" ")
    try:
        return words[0], read_rest(space, words)
    except BadText as e:
        raise NoCommand(e.place)


def read_rest(space, words):
    """Give the tuple of what the words behind the first one stand for."""
    command = words[0]
    reader = Reader(space, words, 1)
    if command == "part":
        return reader.take_name(), read_words(space, words, 2)
    if command in ("put", "take"):
        return read_row(space, words, 1)
    if command in ASKED_OF_MEASURE:
        return (read_words(space, words, 1),)
    if command == "drop":
        name = reader.take_name()
        reader.take_end()
        return (name,)
    if command not in COMMANDS:
        raise BadText(0)
    reader.take_end()
    return ()


def changed_store(store, command, given):
    """Give the store behind a change of it."""
    other = store.copy()
    if command == "part":
        name, part = given
        other[name] = part
    if command == "drop":
        other.drop(given[0])
    return other


def changed_table(table, command, given):
    """Give the table behind a change of it."""
    if command == "put":
        cell, value, times = given
        return table.put(cell, value, times=times)
    if command == "take":
        cell, value, times = given
        return table.without(cell, value, times=times)
    return table


def told_lines(store, table, command, given):
    """Give the list of strings that answers a line that changes nothing."""
    if command == "ask":
        return asked_lines(store, table, given[0])
    if command == "left":
        return [value_word(bound) for bound in left(store, store.part_values(table), given[0])]
    if command == "names":
        return store.names()
    if command == "values":
        values = store.part_values(table)
        return [f"{name} {value_word(values[name])}" for name in store.names()]
    if command == "trimmed":
        return trimmed(store)
    if command == "needless":
        return needless(store)
    return [str(table.size())]


def asked_lines(store, table, measure):
    """Give the value of the measure if the store tells it, otherwise two tables as lines."""
    if tells(store, measure):
        return [f"told {value_word(measure(table))}"]
    twins = twins_of(store, measure)
    one = [f"one {line}" for line in table_text(twins.one)]
    other = [f"other {line}" for line in table_text(twins.other)]
    return ["open", *one, *other]


def value_word(value):
    """Give the word for the value of a measure."""
    if value is None:
        return "none"
    return value.text() if isinstance(value, Ratio) else str(value)
