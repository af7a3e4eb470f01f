"""Promises [2], [10] and [11]: tables."""

import inspect
import itertools
import random
import unittest

from partstell.errors import NoCell, NoRows, NoTable, OtherSpace
from partstell.linear import count_of
from partstell.ratios import Ratio
from partstell.regions import Region
from partstell.spaces import Space
from partstell.tables import Table

AXES = (("a", ("x", "y")), ("b", ("u", "v")))
SPACE = Space(AXES)
LINE = Space([("a", ("z", "a", "m"))])
OTHER = Space([("a", ("x", "y")), ("b", ("u", "w"))])
XU, XV, YU, YV = SPACE.cells
MOST = 10 ** 30
ODD_CELLS = (
    ["x", "u"], ("x",), ("u", "x"), (), [], None, 0, True, "xu", b"x", {}, (["x"], "u"), ("x", "u", "v"),
    ("x", "w"), Ratio(1), SPACE, SPACE.whole(), Table(SPACE), Table,
)
ODD_VALUES = (True, False, None, "1", b"1", [1], (1,), {}, Ratio(1), MOST + 1, -MOST - 1, 10 ** 60, SPACE, int)
ODD_TIMES = (0, -1, -(10 ** 40), True, False, None, "1", b"1", [1], (1,), {}, Ratio(1), SPACE, int)
NO_SEQUENCES = (None, 0, True, "abc", b"abc", {}, {0: 1}, SPACE, Ratio(3), Table(SPACE), range(3), Table)


def joined(space, rows):
    """Give what the field `rows` must be, told in another way."""
    counted = {}
    for cell, value, times in rows:
        counted[cell, value] = counted.get((cell, value), 0) + times
    order = sorted(counted, key=lambda key: (space.cells.index(key[0]), key[1]))
    return tuple((cell, value, counted[cell, value]) for cell, value in order)


def drawn(random_source, space, many):
    return [
        (random_source.choice(space.cells), random_source.randint(-4, 4), random_source.randint(1, 5))
        for _ in range(many)
    ]


class Making(unittest.TestCase):
    def assertRefused(self, rows, place, word, space=SPACE):
        with self.assertRaises(NoTable) as held:
            Table(space, rows)
        self.assertEqual((held.exception.place, held.exception.word), (place, word))

    def test_fields(self):
        table = Table(SPACE, [(YU, 3, 2), (XU, -1, 1)])
        self.assertEqual(table.space, SPACE)
        self.assertEqual(table.rows, ((XU, -1, 1), (YU, 3, 2)))
        self.assertIs(type(table.rows), tuple)
        for row in table.rows:
            self.assertIs(type(row), tuple)

    def test_without_rows(self):
        for table in (Table(SPACE), Table(SPACE, []), Table(SPACE, ()), Table(SPACE, rows=())):
            self.assertEqual(table.rows, ())

    def test_by_keywords(self):
        self.assertEqual(Table(rows=[(XU, 1, 1)], space=SPACE).rows, ((XU, 1, 1),))

    def test_lists_and_tuples_for_sequences(self):
        for rows in ([(XU, 1, 2)], ((XU, 1, 2),), [[XU, 1, 2]], ([XU, 1, 2],)):
            table = Table(SPACE, rows)
            self.assertEqual(table.rows, ((XU, 1, 2),))
            self.assertIs(type(table.rows[0]), tuple)

    def test_same_cell_and_value_add_up(self):
        rows = [(XU, 5, 1), (XV, 5, 1), (XU, 5, 10 ** 40), (XU, 4, 7), (XU, 5, 1)]
        self.assertEqual(Table(SPACE, rows).rows, ((XU, 4, 7), (XU, 5, 10 ** 40 + 2), (XV, 5, 1)))

    def test_ascending_by_place_then_by_value(self):
        rows = [(("m",), 1, 1), (("a",), 10, 1), (("a",), -10, 1), (("a",), 9, 1), (("z",), 7, 1), (("a",), 0, 1)]
        self.assertEqual(Table(LINE, rows).rows, (
            (("z",), 7, 1), (("a",), -10, 1), (("a",), 0, 1), (("a",), 9, 1), (("a",), 10, 1), (("m",), 1, 1),
        ))

    def test_drawn_rows(self):
        source = random.Random(1)
        for many in range(40):
            rows = drawn(source, SPACE, many)
            self.assertEqual(Table(SPACE, rows).rows, joined(SPACE, rows))

    def test_values_at_the_bounds(self):
        rows = [(XU, MOST, 1), (XU, -MOST, 1), (XU, 0, 10 ** 40)]
        self.assertEqual(Table(SPACE, rows).rows, ((XU, -MOST, 1), (XU, 0, 10 ** 40), (XU, MOST, 1)))
        self.assertRefused([(XU, MOST + 1, 1)], 0, "value")
        self.assertRefused([(XU, -MOST - 1, 1)], 0, "value")

    def test_number_of_rows(self):
        for many in (0, 1, 499, 500):
            self.assertEqual(len(Table(SPACE, [(XU, value, 1) for value in range(many)])), many)
            self.assertEqual(len(Table(SPACE, [(XU, 0, 1)] * many)), min(many, 1))
        self.assertRefused([(XU, value, 1) for value in range(501)], -1, "rows")
        self.assertRefused([(XU, 0, 1)] * 501, -1, "rows")
        self.assertRefused((None,) * 501, -1, "rows")

    def test_no_sequence_of_rows(self):
        for odd in NO_SEQUENCES:
            self.assertRefused(odd, -1, "rows")

    def test_no_row(self):
        for odd in (*NO_SEQUENCES, (), (XU, 1), [XU], (XU, 1, 1, 1), [None] * 4):
            self.assertRefused([odd], 0, "row")
            self.assertRefused([(XU, 1, 1), odd, (XU, 1)], 1, "row")

    def test_no_cell(self):
        for odd in ODD_CELLS:
            self.assertRefused([(odd, 1, 1)], 0, "cell")
            self.assertRefused([(XU, 1, 1), (XU, 1, 1), [odd, 1, 1]], 2, "cell")

    def test_no_value(self):
        for odd in ODD_VALUES:
            self.assertRefused([(XU, odd, 1)], 0, "value")
            self.assertRefused([(XU, 1, 1), [XU, odd, 1]], 1, "value")

    def test_no_times(self):
        for odd in ODD_TIMES:
            self.assertRefused([(XU, 1, odd)], 0, "times")
            self.assertRefused([(XU, 1, 1), [XU, 1, odd]], 1, "times")

    def test_the_first_word_that_is_due(self):
        self.assertRefused([(None, None, None)], 0, "cell")
        self.assertRefused([(XU, None, None)], 0, "value")
        self.assertRefused([(XU, 1, None)], 0, "times")

    def test_the_first_row_that_is_not_as_told(self):
        self.assertRefused([(XU, 1, 1), (XU, 1, 0), (None, 1, 1), 5], 1, "times")
        self.assertRefused([(XU, 1, 1), 5, (None, 1, 1)], 1, "row")

    def test_a_cell_of_another_space(self):
        self.assertRefused([(("z",), 1, 1)], 0, "cell")
        self.assertRefused([(XU, 1, 1)], 0, "cell", space=LINE)

    def test_the_list_may_change_afterwards(self):
        row = [YU, 1, 2]
        rows = [row, (XU, 1, 1)]
        table = Table(SPACE, rows)
        self.assertEqual(rows, [[YU, 1, 2], (XU, 1, 1)])
        row[2] = 9
        rows.append((XU, 5, 5))
        self.assertEqual(table.rows, ((XU, 1, 1), (YU, 1, 2)))


class Equality(unittest.TestCase):
    def test_equal_spaces_and_rows(self):
        one = Table(SPACE, [(XU, 1, 1), (XU, 1, 2), (YV, 0, 1)])
        self.assertIs(one == Table(Space([["a", ["x", "y"]], ["b", ["u", "v"]]]), [(YV, 0, 1), (XU, 1, 3)]), True)
        self.assertIs(one != Table(SPACE, [(YV, 0, 1), (XU, 1, 3)]), False)

    def test_unequal(self):
        one = Table(SPACE, [(XU, 1, 1)])
        for other in (
            Table(SPACE), Table(SPACE, [(XU, 1, 2)]), Table(SPACE, [(XU, 2, 1)]), Table(SPACE, [(XV, 1, 1)]),
            Table(OTHER, [(XU, 1, 1)]), None, 1, True, one.rows, list(one.rows), SPACE, SPACE.whole(), Ratio(1), "",
            Table, {},
        ):
            self.assertIs(one == other, False)
            self.assertIs(other == one, False)
            self.assertIs(one != other, True)

    def test_tables_without_rows_of_two_spaces(self):
        self.assertIs(Table(SPACE) == Table(OTHER), False)
        self.assertIs(Table(SPACE) == Table(SPACE), True)


class Reading(unittest.TestCase):
    def test_pairs_of_a_cell(self):
        table = Table(SPACE, [(XU, 3, 1), (XU, -3, 2), (XU, 0, 3), (YU, 8, 1), (XU, 3, 4)])
        self.assertEqual(table[XU], ((-3, 2), (0, 3), (3, 5)))
        self.assertEqual(table["y", "u"], ((8, 1),))
        self.assertEqual(table[YV], ())
        self.assertIs(type(table[XU]), tuple)
        self.assertIs(type(table[XU][0]), tuple)
        self.assertIs(type(table[YV]), tuple)

    def test_no_cell(self):
        table = Table(SPACE, [(XU, 3, 1)])
        for odd in ODD_CELLS:
            with self.assertRaises(NoCell) as held:
                table[odd]
            self.assertIs(held.exception.cell, odd)

    def test_len_and_size(self):
        for rows, many, size in (
            ([], 0, 0), ([(XU, 1, 1)], 1, 1), ([(XU, 1, 1), (XU, 1, 1)], 1, 2),
            ([(XU, 1, 10 ** 40), (XV, 1, 3), (XU, 2, 1)], 3, 10 ** 40 + 4),
        ):
            table = Table(SPACE, rows)
            self.assertEqual((len(table), table.size()), (many, size))

    def test_each_row_is_a_generator_of_the_rows(self):
        table = Table(SPACE, [(YU, 3, 2), (XU, 3, 2), (XU, -1, 1)])
        self.assertTrue(inspect.isgenerator(table.each_row()))
        self.assertEqual(tuple(table.each_row()), table.rows)
        self.assertEqual(list(Table(SPACE).each_row()), [])
        one, other = table.each_row(), table.each_row()
        self.assertEqual(next(one), next(other))
        self.assertEqual(next(one), (XU, 3, 2))
        self.assertEqual(next(other), (XU, 3, 2))


class Adding(unittest.TestCase):
    def test_rows_of_both(self):
        source = random.Random(2)
        for _ in range(60):
            one, other = drawn(source, SPACE, source.randint(0, 9)), drawn(source, SPACE, source.randint(0, 9))
            left, right = Table(SPACE, one), Table(SPACE, other)
            both = left + right
            self.assertIs(type(both), Table)
            self.assertEqual(both.space, SPACE)
            self.assertEqual(both.rows, joined(SPACE, one + other))
            self.assertEqual(both, right + left)
            self.assertEqual(both.size(), left.size() + right.size())
            self.assertEqual((left.rows, right.rows), (joined(SPACE, one), joined(SPACE, other)))

    def test_without_rows(self):
        table = Table(SPACE, [(XU, 1, 1)])
        self.assertEqual(table + Table(SPACE), table)
        self.assertEqual(Table(SPACE) + table, table)
        self.assertEqual(Table(SPACE) + Table(SPACE), Table(SPACE))

    def test_more_than_500_triples(self):
        one = Table(SPACE, [(XU, value, 1) for value in range(500)])
        other = Table(SPACE, [(XU, value, 1) for value in range(-500, 0)])
        both = one + other
        self.assertEqual(both.rows, tuple((XU, value, 1) for value in range(-500, 500)))
        self.assertEqual(len(both + both), 1000)
        self.assertEqual((both + both).size(), 2000)
        self.assertEqual(len(both + Table(SPACE, [(XV, 1, 1)])), 1001)
        self.assertEqual(len(both.without(XU, 0)), 999)

    def test_other_space(self):
        for one, other in itertools.permutations((Table(SPACE), Table(OTHER), Table(LINE)), 2):
            with self.assertRaises(OtherSpace):
                one + other

    def test_in_place(self):
        one = Table(SPACE, [(XU, 1, 1)])
        held = one
        one += Table(SPACE, [(XU, 1, 1)])
        self.assertEqual(held.rows, ((XU, 1, 1),))
        self.assertEqual(one.rows, ((XU, 1, 2),))
        self.assertIsNot(one, held)


class Putting(unittest.TestCase):
    def test_more_rows(self):
        table = Table(SPACE, [(XU, 1, 1), (YV, 2, 2)])
        self.assertEqual(table.put(XU, 1).rows, ((XU, 1, 2), (YV, 2, 2)))
        self.assertEqual(table.put(XU, 1, times=1), table.put(XU, 1))
        self.assertEqual(table.put(XU, 0, times=5).rows, ((XU, 0, 5), (XU, 1, 1), (YV, 2, 2)))
        self.assertEqual(table.put(YV, 2, times=10 ** 40).rows, ((XU, 1, 1), (YV, 2, 10 ** 40 + 2)))
        self.assertEqual(table.put(cell=YU, value=-MOST, times=2).rows, ((XU, 1, 1), (YU, -MOST, 2), (YV, 2, 2)))
        self.assertEqual(table.rows, ((XU, 1, 1), (YV, 2, 2)))

    def test_more_than_500_triples(self):
        table = Table(SPACE, [(XU, value, 1) for value in range(500)])
        table = table.put(XU, 500).put(XU, -1).put(XU, 3)
        self.assertEqual(len(table), 502)
        self.assertEqual(table.size(), 503)
        self.assertEqual(table.rows[0], (XU, -1, 1))
        self.assertEqual(table.rows[-1], (XU, 500, 1))

    def test_a_table_of_many_rows_is_still_refused_when_it_is_passed(self):
        table = Table(SPACE, [(XU, value, 1) for value in range(500)]).put(XU, -1)
        with self.assertRaises(NoTable) as held:
            Table(SPACE, table.rows)
        self.assertEqual((held.exception.place, held.exception.word), (-1, "rows"))

    def test_times_by_keyword_only(self):
        with self.assertRaises(TypeError):
            Table(SPACE).put(XU, 1, 1)
        with self.assertRaises(TypeError):
            Table(SPACE, [(XU, 1, 1)]).without(XU, 1, 1)


class Taking(unittest.TestCase):
    def test_fewer_rows(self):
        table = Table(SPACE, [(XU, 1, 3), (XU, 2, 1), (XV, 1, 3)])
        self.assertEqual(table.without(XU, 1).rows, ((XU, 1, 2), (XU, 2, 1), (XV, 1, 3)))
        self.assertEqual(table.without(XU, 1, times=2).rows, ((XU, 1, 1), (XU, 2, 1), (XV, 1, 3)))
        self.assertEqual(table.without(XU, 1, times=3).rows, ((XU, 2, 1), (XV, 1, 3)))
        self.assertEqual(table.without(cell=XU, value=2, times=1).rows, ((XU, 1, 3), (XV, 1, 3)))
        self.assertEqual(table.rows, ((XU, 1, 3), (XU, 2, 1), (XV, 1, 3)))

    def test_all_rows(self):
        table = Table(SPACE, [(XU, 1, 10 ** 40)])
        self.assertEqual(table.without(XU, 1, times=10 ** 40), Table(SPACE))
        self.assertEqual(table.without(XU, 1, times=10 ** 40 - 1), Table(SPACE, [(XU, 1, 1)]))

    def test_put_taken_back(self):
        source = random.Random(3)
        for _ in range(60):
            table = Table(SPACE, drawn(source, SPACE, source.randint(0, 9)))
            cell, value, times = drawn(source, SPACE, 1)[0]
            self.assertEqual(table.put(cell, value, times=times).without(cell, value, times=times), table)

    def test_one_more_than_there_are(self):
        table = Table(SPACE, [(XU, 1, 3), (XV, 2, 5)])
        for cell, value, times in (
            (XU, 1, 4), (XU, 1, 10 ** 40), (XV, 1, 1), (XU, 2, 1), (YU, 1, 1), (XV, 2, 6), (YU, MOST, 1),
        ):
            with self.assertRaises(NoRows) as held:
                table.without(cell, value, times=times)
            self.assertEqual((held.exception.cell, held.exception.value), (cell, value))
        self.assertEqual(table.rows, ((XU, 1, 3), (XV, 2, 5)))
        with self.assertRaises(NoRows):
            Table(SPACE).without(XU, 0)


class WrongRows(unittest.TestCase):
    def assertWord(self, word, cell, value, times):
        table = Table(SPACE, [(XU, 1, 3)])
        for change in (table.put, table.without):
            with self.assertRaises(NoTable) as held:
                change(cell, value, times=times)
            self.assertEqual((held.exception.place, held.exception.word), (0, word))
        self.assertEqual(table.rows, ((XU, 1, 3),))

    def test_each_word(self):
        for odd in ODD_CELLS:
            self.assertWord("cell", odd, 1, 1)
        for odd in ODD_VALUES:
            self.assertWord("value", XU, odd, 1)
        for odd in ODD_TIMES:
            self.assertWord("times", XU, 1, odd)

    def test_the_first_word_that_is_due(self):
        self.assertWord("cell", ["x", "u"], True, 0)
        self.assertWord("value", XU, MOST + 1, 0)
        self.assertWord("times", XU, MOST, 0)

    def test_ahead_of_rows_that_are_missing(self):
        self.assertWord("times", YV, 7, 0)


class Keeping(unittest.TestCase):
    def test_measures_and_regions_are_no_tables(self):
        table = Table(SPACE)
        for other in (count_of(SPACE.whole()), Region(SPACE, [])):
            self.assertIs(table == other, False)

    def test_a_table_is_not_iterated_over(self):
        with self.assertRaises(TypeError):
            list(Table(SPACE, [(XU, 1, 1)]))


if __name__ == "__main__":
    unittest.main()
