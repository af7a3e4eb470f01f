"""Promises [47], [48] and [49]: measures, stores and tables as texts."""

import itertools
import random
import unittest

from drawn import GRID, KINDS, LARGE, LINE, SMALL, drawn_measure, drawn_store, drawn_table, store_of
from partstell.errors import BadLine, BadText, Full, NoMeasure, NoQuotient
from partstell.linear import Linear, count_of, squares_of, sum_of
from partstell.measures import Greatest, Least, Quotient, Spread, Variance, mean_of
from partstell.ratios import Ratio
from partstell.regions import Region
from partstell.spaces import Space
from partstell.stores import Store
from partstell.tables import Table
from partstell.texts import measure_text, read_measure, read_store, read_table, store_text, table_text
from test_choosing import NO_MEASURES
from wording import MEASURES, MEASURES_BEGUN, wrong_place

MOST = 10 ** 30
PLANE = Space([("a", ("x", "y")), ("b", ("u", "v"))])
WHOLE, EMPTY = SMALL.whole(), SMALL.empty()
FIRST, SECOND = SMALL.where("a", ["x"]), SMALL.where("a", ["y"])
A, B = SMALL.cells
NINES = "9" * 60
NO_REGIONS = (
    "", "x", "[", "]", "x]", "[x", "[]]", "[[]", "[[x]]", "[x,]", "[,x]", "[,]", "[x,,y]", "[q]", "[x,q]", "[X]",
    "[x.y]",
    "[x.]", "[.x]", "[x;y]", "(x)", "[x]]", "[x],", ",[x]", "[x]y", "{x}", "][", "[x][y]", "least", "zero", "1",
)
NO_RATIOS = (
    "", "-", "+1", "--1", "01", "-01", "00", "-0", "2/4", "3/1", "0/1", "0/5", "1/0", "1/-2", "-1/-2", "1/02", "/2",
    "1/",
    "1/2/3", "1.5", "1e5", "x", "1,000", "1_000", "0x1", NINES + "9", "1/" + NINES + "9", "-" + NINES + "9", "1/1",
    "-2/4",
)
NO_INTEGERS = (
    "", "-", "+1", "--1", "01", "-01", "00", "-0", "1/2", "1.0", "1_0", "x", "0x1", "1e3", "1,0", "-00", "5-", "1-1",
    "[1]", "--0",
)
NO_CELLS = ("", "q", "X", "[x]", "x.", ".x", "x.x", "x,y", "x.u", "xy", "1", "part")


class Texts(unittest.TestCase):
    def assertBad(self, place, text, space=SMALL):
        with self.assertRaises(BadText, msg=text) as held:
            read_measure(space, text)
        self.assertEqual(held.exception.place, place, text)
        self.assertIs(type(held.exception.place), int)


class Writing(Texts):
    def assertText(self, measure, text):
        self.assertEqual(measure_text(measure), text)
        self.assertEqual(read_measure(measure.space, text), measure)

    def test_drawn(self):
        source = random.Random(481)
        found = {}
        for _ in range(700):
            space = source.choice((SMALL, LINE, GRID, LARGE))
            store = drawn_store(source, space, most=4)
            measure = drawn_measure(source, store)
            text = measure_text(measure)
            again = read_measure(space, text)
            self.assertIs(type(again), type(measure))
            self.assertEqual(again, measure)
            self.assertEqual(measure_text(again), text)
            found[type(measure)] = found.get(type(measure), 0) + 1
        for kind in KINDS:
            self.assertGreater(found[kind], 20)

    def test_the_terms_in_order(self):
        third = Ratio(1, 3)
        space = Space([("a", ("p", "q", "r", "s", "t"))])
        measure = Linear(space, [2, third, 0, -2, third], [0, 10, 9, 9, 0], [Ratio(-1, 2), -1, Ratio(-3, 2), 0, 0])
        self.assertText(measure, (
            "-2 count [s] plus 1/3 count [q,t] plus 2 count [p] plus 9 sum [r,s] plus 10 sum [q] plus "
            "-3/2 squares [r] plus -1 squares [q] plus -1/2 squares [p]"
        ))

    def test_each_class(self):
        for measure, text in (
            (count_of(WHOLE), "1 count [x,y]"), (sum_of(FIRST), "1 sum [x]"), (squares_of(SECOND), "1 squares [y]"),
            (count_of(EMPTY), "zero"), (count_of(WHOLE) - count_of(WHOLE), "zero"), (Least(WHOLE), "least [x,y]"),
            (Greatest(EMPTY), "greatest []"), (Variance(FIRST), "variance [x]"), (Spread(SECOND), "spread [y]"),
            (mean_of(WHOLE), "quotient 1 sum [x,y] over 1 count [x,y]"), (Least(EMPTY), "least []"),
            (Variance(EMPTY), "variance []"), (Spread(EMPTY), "spread []"), (-sum_of(FIRST), "-1 sum [x]"),
            (Quotient(sum_of(FIRST) * 2 + count_of(SECOND), sum_of(WHOLE).over(-7)),
             "quotient 1 count [y] plus 2 sum [x] over -1/7 sum [x,y]"),
        ):
            self.assertText(measure, text)

    def test_the_example_of_the_document(self):
        measure = count_of(WHOLE) * Ratio(1, 2) - sum_of(FIRST)
        self.assertText(measure, "1/2 count [x,y] plus -1 sum [x]")

    def test_cells_with_dots(self):
        self.assertText(count_of(PLANE.whole()), "1 count [x.u,x.v,y.u,y.v]")
        self.assertText(Least(Region(PLANE, [("y", "u"), ("x", "v"), ("y", "u")])), "least [x.v,y.u]")
        self.assertText(Greatest(Region(LARGE, [LARGE.cells[-1], LARGE.cells[0]])), "greatest [x.u.p.m,z.v.q.n]")

    def test_numbers_of_60_digits(self):
        most = int(NINES)
        self.assertText(count_of(FIRST) * Ratio(-most, 10 ** 59), f"-{NINES}/1{'0' * 59} count [x]")
        self.assertText(sum_of(WHOLE) * -most, f"-{NINES} sum [x,y]")

    def test_no_measure(self):
        for odd in NO_MEASURES:
            with self.assertRaises(NoMeasure):
                measure_text(odd)

    def test_by_keywords(self):
        self.assertEqual(measure_text(measure=Least(WHOLE)), "least [x,y]")
        self.assertEqual(read_measure(text="least [x,y]", space=SMALL), Least(WHOLE))


class Reading(Texts):
    def test_other_texts_of_the_same_measure(self):
        for text, measure in (
            ("1 count [y,x]", count_of(WHOLE)), ("1 count [x,y,x]", count_of(WHOLE)), ("2 sum [x,x]",
            sum_of(FIRST) * 2),
            ("least [y,x,y]", Least(WHOLE)), ("1 count [x] plus 1 count [y]", count_of(WHOLE)),
            ("1 sum [x] plus 1 count [y]", sum_of(FIRST) + count_of(SECOND)), ("0 count [x]", count_of(EMPTY)),
            ("1/2 sum [x] plus 1/2 sum [x]", sum_of(FIRST)), ("5 squares []", count_of(EMPTY)),
            ("0 count [] plus -3/7 sum [y] plus 0 squares [x]", sum_of(SECOND) * Ratio(-3, 7)),
            ("1 count [x] plus -1 count [x]", count_of(EMPTY)),
            ("quotient 0 sum [y] plus 1 sum [x] over 1 count [x,x]", mean_of(FIRST)),
        ):
            self.assertEqual(read_measure(SMALL, text), measure)

    def test_many_terms(self):
        text = " plus ".join(["1/3 sum [x]"] * 60)
        self.assertEqual(read_measure(SMALL, text), sum_of(FIRST) * 20)
        self.assertBad(240, text + " plus")
        self.assertBad(238, " plus ".join(["1/3 sum [x]"] * 59 + ["1/3 sum"])[:-1] + "m [q]")

    def test_the_example_of_the_document(self):
        self.assertBad(2, "least [x] plus")

    def test_each_row_of_words(self):
        words = ("zero", "1/2", "sum", "[x]", "plus", "least", "quotient", "over", "", "none")
        for many in range(1, 5):
            for row in itertools.product(words, repeat=many):
                self.assertRow(row)

    def test_rows_with_a_wrong_word(self):
        words = ("zero", "1/2", "sum", "[x]", "plus", "least", "variance", "quotient", "over", "", "2/4", "[q]", "sum ")
        for row in sorted(MEASURES):
            for place in range(len(row)):
                for word in words:
                    self.assertRow((*row[:place], word, *row[place + 1:]))
                    self.assertRow((*row[:place], word, *row[place:]))
                self.assertRow(row[:place] or ("",))
                self.assertRow((*row[:place], *row[place + 1:]) or ("",))
            for word in words:
                self.assertRow((*row, word))

    def assertRow(self, row):
        text = " ".join(row)
        place = wrong_place(text.split(" "), MEASURES, MEASURES_BEGUN)
        if place is not None:
            if row.count("plus") < 3:
                self.assertBad(place, text)
        elif row[0] == "quotient":
            with self.assertRaises(NoQuotient):
                read_measure(SMALL, text)
        else:
            read_measure(SMALL, text)

    def test_blanks_and_empty_words(self):
        for text, place in (
            ("", 0), (" ", 0), ("  ", 0), (" zero", 0), ("zero ", 1), ("zero  ", 1), ("1 count [x] ", 3),
            ("1  count [x]", 1),
            ("1 count  [x]", 2), ("least  [x]", 1), ("least [x] ", 2), ("least [x, y]", 1), ("1 count [x]  plus", 3),
            ("quotient  zero over zero", 1), ("least\t[x]", 0), ("least [x]\n", 1),
        ):
            self.assertBad(place, text)

    def test_no_region_words(self):
        for word in NO_REGIONS:
            for kind in ("least", "greatest", "variance", "spread"):
                self.assertBad(1, f"{kind} {word}")
                self.assertBad(1, f"{kind} {word} more")
            for kind in ("count", "sum", "squares"):
                self.assertBad(2, f"1 {kind} {word}")
                self.assertBad(6, f"1 {kind} [x] plus 1 {kind} {word}")
                self.assertBad(7, f"quotient 1 {kind} [x] over 1 sum {word}")

    def test_no_ratio_words(self):
        for word in NO_RATIOS:
            self.assertBad(0, f"{word} count [x]")
            self.assertBad(4, f"1 count [x] plus {word} count [x]")
            self.assertBad(1, f"quotient {word} count [x]")
            self.assertBad(3, f"quotient zero over {word}")
        for word in ("0", "1", "-1", "1/2", "-7/3", NINES, "-" + NINES, "1/" + NINES, f"-{'1' * 60}/{'2' + '0' * 59}"):
            self.assertEqual(read_measure(SMALL, f"{word} count [x]"), count_of(FIRST) * Ratio.read(word))

    def test_no_kind_words(self):
        for word in ("", "Count", "counts", "least", "mean", "plus", "[x]", "zero", "variance", "1", "quotient"):
            self.assertBad(1, f"1 {word} [x]")
        for word in ("", "Least", "leasts", "mean", "plus", "[x]", "over", "count", "None", "sum", "x"):
            self.assertBad(0, f"{word} [x]")
        for word in ("", "Over", "by", "/", "zero"):
            self.assertBad(2, f"quotient zero {word} zero")
        for word in ("", "Plus", "+", "minus", "over", "1"):
            self.assertBad(3, f"1 count [x] {word} 1 count [y]")
        for text, place in (("zero plus 1 count [x]", 1), ("zero zero", 1), ("zero over zero", 1)):
            self.assertBad(place, text)
        self.assertBad(4, "1 count [x] plus zero")
        for text, place in (("quotient quotient", 1), ("quotient least [x]", 1), ("quotient zero over least", 3)):
            self.assertBad(place, text)

    def test_texts_that_end_too_early(self):
        full = "quotient 1 count [x] plus 2 sum [y] over 1 sum [x] plus 3 squares [x,y]".split(" ")
        for many in range(1, len(full)):
            wanted = None if many == len(full) - 4 else many
            if wanted is None:
                self.assertEqual(type(read_measure(SMALL, " ".join(full[:many]))), Quotient)
            else:
                self.assertBad(many, " ".join(full[:many]))
        for text in ("least", "greatest", "variance", "spread", "1", "1 sum", "1 sum [x] plus", "quotient"):
            self.assertBad(len(text.split(" ")), text)

    def test_proportional_measures(self):
        for text in (
            "quotient 1 count [x] over 2 count [x]", "quotient zero over 1 count [x]", "quotient 1 sum [y] over zero",
            "quotient zero over zero", "quotient 0 sum [x] over 1 sum [x]", "quotient 1 sum [] over 1 count [x]",
            "quotient 1 sum [x] plus 1 sum [y] over -1/7 sum [y,x]",
        ):
            with self.assertRaises(NoQuotient):
                read_measure(SMALL, text)
            self.assertBad(len(text.split(" ")), text + " x")
        self.assertBad(8, "quotient 1 count [x] over 2 count [x] over")

    def test_another_space(self):
        self.assertBad(1, "least [x]", PLANE)
        self.assertBad(1, "least [x.u,x]", PLANE)
        self.assertBad(1, "least [u.x]", PLANE)
        self.assertBad(1, "least [x.u]", SMALL)
        self.assertEqual(read_measure(PLANE, "least [y.v,x.u]"), Least(Region(PLANE, [("x", "u"), ("y", "v")])))


class Stores(Texts):
    def assertBadLine(self, line, place, lines, space=SMALL):
        for given in (list(lines), tuple(lines)):
            with self.assertRaises(BadLine, msg=lines) as held:
                read_store(space, given)
            self.assertEqual((held.exception.line, held.exception.place), (line, place), lines)

    def test_drawn(self):
        source = random.Random(491)
        for _ in range(150):
            space = source.choice((SMALL, LINE, GRID, LARGE))
            store = drawn_store(source, space, most=12)
            lines = store_text(store)
            self.assertIs(type(lines), list)
            self.assertEqual(lines, [f"{name} {measure_text(store[name])}" for name in store.names()])
            source.shuffle(lines)
            before = list(lines)
            for given in (lines, tuple(lines)):
                again = read_store(space, given)
                self.assertIs(type(again), Store)
                self.assertEqual(again, store)
            self.assertEqual(lines, before)

    def test_lines(self):
        store = store_of(SMALL, b=Least(WHOLE), a9=count_of(FIRST), a10=Greatest(EMPTY))
        self.assertEqual(store_text(store), ["a10 greatest []", "a9 1 count [x]", "b least [x,y]"])
        self.assertEqual(store_text(Store(SMALL)), [])
        self.assertEqual(read_store(SMALL, []), Store(SMALL))
        self.assertEqual(read_store(lines=["b zero"], space=SMALL), store_of(SMALL, b=count_of(EMPTY)))
        # A name may be a word that means something elsewhere.
        self.assertEqual(read_store(SMALL, ["least least [x]", "zero zero"]).names(), ["least", "zero"])

    def test_the_list_and_the_store_are_new(self):
        store = store_of(SMALL, a=Least(WHOLE))
        store_text(store).clear()
        self.assertEqual(store_text(store), ["a least [x,y]"])
        lines = ["a least [x]"]
        one, other = read_store(SMALL, lines), read_store(SMALL, lines)
        one.drop("a")
        self.assertEqual(other.names(), ["a"])

    def test_16_and_17_lines(self):
        lines = [f"n{number} {number} count [x]" for number in range(16)]
        self.assertEqual(len(read_store(SMALL, lines)), 16)
        more = ("z zero", "?", "n0 zero", "", "z variance [x]")
        for wrong in (*(lines + [line] for line in more), ["?"] + lines, ["?"] * 17, [""] * 100):
            for given in (wrong, tuple(wrong)):
                with self.assertRaises(Full) as held:
                    read_store(SMALL, given)
                self.assertEqual(held.exception.number, len(wrong))

    def test_no_name(self):
        for word in ("", "A", "1a", "a-b", "abcdefghi", "[x]", "a.b", "-", "x,y", "a_b"):
            for rest in (" zero", "", " ", " none", " variance [x]"):
                self.assertBadLine(0, 0, [word + rest])
                self.assertBadLine(2, 0, ["a zero", "b zero", word + rest, "c none"])
        self.assertBadLine(0, 0, [" a zero"])

    def test_names_twice(self):
        for rest in (" zero", "", " ", " none", " variance [x]", " least [x]"):
            self.assertBadLine(1, 0, ["a zero", "a" + rest])
            self.assertBadLine(2, 0, ["a zero", "b zero", "a" + rest, "b zero"])

    def test_what_a_store_cannot_hold(self):
        for text in (
            "variance [x]", "spread []", "quotient 1 sum [x] over 1 count [x]", "quotient 1 sum [x] over 2 sum [x]",
            "quotient zero over zero", "variance []",
        ):
            self.assertBadLine(0, 1, ["a " + text])
            self.assertBadLine(1, 1, ["a zero", "b " + text, "a zero"])

    def test_bad_texts(self):
        for text, place in (
            ("", 0), ("none", 0), ("least", 1), ("variance", 1), ("spread [q]", 1), ("least [x] plus", 2),
            ("1 count", 2),
            ("quotient 1 sum [x] over", 5), ("quotient 1 sum [x] over 2 sum", 7), ("zero plus", 1), (" zero", 0),
            ("zero ", 1),
            ("quotient 1 sum [x] over 2 sum [x] over", 8), ("1 count [x] plus 2/4", 4),
        ):
            self.assertBadLine(0, place + 1, ["a " + text])
            self.assertBadLine(1, place + 1, ["b zero", "a " + text, "b zero"])
        self.assertBadLine(0, 1, ["a"])

    def test_the_first_line_that_is_not_right(self):
        self.assertBadLine(1, 2, ["a zero", "b least", "a zero", "?"])
        self.assertBadLine(0, 1, ["a variance [x]", "?"])


class Tables(Texts):
    def assertBadLine(self, line, place, lines, space=SMALL):
        for given in (list(lines), tuple(lines)):
            with self.assertRaises(BadLine, msg=lines) as held:
                read_table(space, given)
            self.assertEqual((held.exception.line, held.exception.place), (line, place), lines)

    def test_drawn(self):
        source = random.Random(492)
        for _ in range(200):
            space = source.choice((SMALL, LINE, GRID, LARGE))
            table = drawn_table(source, space)
            lines = table_text(table)
            self.assertIs(type(lines), list)
            self.assertEqual(lines, [f"{'.'.join(cell)} {value} {times}" for cell, value, times in table.rows])
            source.shuffle(lines)
            again = read_table(space, lines)
            self.assertIs(type(again), Table)
            self.assertEqual(again, table)
            self.assertEqual(read_table(space, tuple(lines + lines)), table + table)

    def test_lines(self):
        table = Table(PLANE, [(("y", "u"), -MOST, 3), (("x", "v"), MOST, 10 ** 59), (("y", "u"), 0, 1)])
        lines = [f"x.v {MOST} {10 ** 59}", f"y.u {-MOST} 3", "y.u 0 1"]
        self.assertEqual(table_text(table), lines)
        self.assertEqual(read_table(lines=lines, space=PLANE), table)
        self.assertEqual(table_text(Table(SMALL)), [])
        self.assertEqual(read_table(SMALL, []), Table(SMALL))

    def test_rows_are_added(self):
        found = read_table(SMALL, ["x 1 2", "y 1 2", "x 1 3", f"x 1 {NINES}"])
        self.assertEqual(found, Table(SMALL, [(A, 1, 5 + int(NINES)), (B, 1, 2)]))

    def test_500_lines(self):
        lines = [f"{'xy'[number % 2]} {number} 1" for number in range(500)]
        self.assertEqual(len(read_table(SMALL, lines)), 500)
        self.assertEqual(read_table(SMALL, ["x 1 1"] * 500), Table(SMALL, [(A, 1, 500)]))
        # Somewhat beyond the limit no error is raised.
        self.assertEqual(read_table(SMALL, [*lines, "x 1000 1"]).size(), 501)

    def test_no_cell_words(self):
        for word in NO_CELLS:
            for rest in (" 1 1", "", " ", " a b c d"):
                self.assertBadLine(0, 0, [word + rest])
                self.assertBadLine(1, 0, ["x 1 1", word + rest, "q"])
        for word in ("x", "u.x", "x.u.x", "x.q"):
            self.assertBadLine(0, 0, [word + " 1 1"], PLANE)

    def test_no_integer_words(self):
        for word in (*NO_INTEGERS, str(MOST + 1), str(-MOST - 1), NINES, "-" + NINES, NINES + "9"):
            for rest in (" 1", "", " x", " 1 1"):
                self.assertBadLine(0, 1, [f"x {word}{rest}"])
        for word in (*NO_INTEGERS, "0", "-1", "-5", NINES + "9", "-" + NINES):
            for rest in ("", " ", " 1"):
                self.assertBadLine(0, 2, [f"x 1 {word}{rest}"])
                self.assertBadLine(3, 2, ["x 1 1"] * 3 + [f"x 1 {word}{rest}"] + ["q"])
        for word in ("0", "-1", "9", str(MOST), str(-MOST)):
            self.assertEqual(read_table(SMALL, [f"x {word} 1"]), Table(SMALL, [(A, int(word), 1)]))
        for word in ("1", "10", NINES):
            self.assertEqual(read_table(SMALL, [f"x 1 {word}"]), Table(SMALL, [(A, 1, int(word))]))

    def test_too_few_and_too_many_words(self):
        for line, place in (
            ("x", 1), ("x 1", 2), ("x 1 1 1", 3), ("x 1 1 ", 3), ("x 1 1  ", 3), ("x  1 1", 1), (" x 1 1", 0),
            ("x 1  1", 2),
            ("x 1 1 y 1 1", 3), ("", 0), (" ", 0), ("x ", 1), ("x 1 ", 2),
        ):
            self.assertBadLine(0, place, [line])
            self.assertBadLine(1, place, ["y 1 1", line, "?"])


if __name__ == "__main__":
    unittest.main()
