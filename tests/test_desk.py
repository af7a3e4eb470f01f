"""Promises [50], [51] and [52]: the desk."""

import itertools
import random
import unittest

from drawn import (
    GRID, KINDS, LARGE, LINE, SMALL, drawn_linear, drawn_measure, drawn_part, drawn_region, drawn_table, is_told,
    store_of,
)
from partstell.compared import needless
from partstell.desk import Desk
from partstell.errors import (
    Full, NoCommand, NoPart, NoQuotient, NoRedo, NoRows, NoSuch, NotExtreme, NoUndo, PartError,
)
from partstell.leftopen import left
from partstell.linear import count_of, sum_of
from partstell.measures import Greatest, Least
from partstell.ratios import Ratio
from partstell.spaces import Space
from partstell.stores import Store
from partstell.tables import Table
from partstell.telling import check_twins, trimmed
from partstell.texts import measure_text, read_table, store_text, table_text
from partstell.ways import Twins
from test_texts import NO_CELLS, NO_INTEGERS, NO_RATIOS, NO_REGIONS
from wording import MEASURES, beginnings, wrong_place

MOST = 10 ** 30
NINES = "9" * 60
A, B = SMALL.cells
WHOLE, FIRST = SMALL.whole(), SMALL.where("a", ["x"])
NO_NAMES = ("", "A", "1a", "a-b", "abcdefghi", "[x]", "a.b", "-", "x,y")
QUERIES = ("names", "values", "trimmed", "needless", "size")


def word_of(value):
    return "none" if value is None else value.text() if isinstance(value, Ratio) else str(value)


class Beside:
    """A store and a table that are kept beside a desk, with all that was before and behind."""

    def __init__(self, space):
        self.states = [(Store(space), Table(space))]
        self.at = 0

    def now(self):
        return self.states[self.at]

    def change(self, store, table):
        self.states[self.at + 1:] = [(store, table)]
        self.at += 1

    def step(self, by):
        if not 0 <= self.at + by < len(self.states):
            raise NoUndo() if by < 0 else NoRedo()
        self.at += by


def drawn_line(source, space, beside):
    """Give a line, and what does the same to what is kept beside the desk."""
    store, table = beside.now()
    kind = source.randint(0, 8)
    name = source.choice(("a", "b", "c10", "c9", "zz"))
    if kind < 3:
        part = drawn_part(source, space)
        if source.random() < 0.2:
            part = drawn_measure(source, store, drawn_linear)

        def put_part():
            changed = store.copy()
            changed[name] = part
            beside.change(changed, table)
        return f"part {name} {measure_text(part)}", put_part
    if kind == 3:
        def drop():
            changed = store.copy()
            changed.drop(name)
            beside.change(changed, table)
        return f"drop {name}", drop
    cell, value, times = source.choice(space.cells), source.randint(-2, 2), source.choice((1, 1, 2, 10 ** 40))
    if kind in (4, 5):
        def put():
            beside.change(store, table.put(cell, value, times=times))
        return f"put {'.'.join(cell)} {value} {times}", put
    if kind == 6:
        if len(table) > 0 and source.random() < 0.8:
            cell, value, most = source.choice(table.rows)
            times = source.choice((1, most, most + 1))

        def take():
            beside.change(store, table.without(cell, value, times=times))
        return f"take {'.'.join(cell)} {value} {times}", take
    if kind == 7:
        return "undo", lambda: beside.step(-1)
    return "redo", lambda: beside.step(1)


class Telling(unittest.TestCase):
    def assertState(self, desk, store, table):
        self.assertEqual(desk.store_now(), store)
        self.assertEqual(desk.table_now(), table)

    def assertQueries(self, desk, store, table):
        self.assertEqual(desk.tell("names"), store.names())
        self.assertEqual(desk.tell("values"), [f"{name} {word_of(store[name](table))}" for name in store.names()])
        self.assertEqual(desk.tell("trimmed"), trimmed(store))
        self.assertEqual(desk.tell("needless"), needless(store))
        self.assertEqual(desk.tell("size"), [str(table.size())])

    def assertAsk(self, desk, measure):
        store, table = desk.store_now(), desk.table_now()
        found = desk.tell(f"ask {measure_text(measure)}")
        self.assertIs(type(found), list)
        if is_told(store, measure):
            self.assertEqual(found, [f"told {word_of(measure(table))}"])
            return True
        self.assertEqual(found[0], "open")
        lines = {"one": [], "other": []}
        for line in found[1:]:
            side, rest = line.split(" ", 1)
            lines[side].append(rest)
        wanted = [f"one {line}" for line in lines["one"]] + [f"other {line}" for line in lines["other"]]
        self.assertEqual(found[1:], wanted)
        one, other = (read_table(store.space, lines[side]) for side in ("one", "other"))
        self.assertEqual((table_text(one), table_text(other)), (lines["one"], lines["other"]))
        self.assertIs(check_twins(store, measure, Twins(one, other)), True)
        return False

    def assertLeft(self, desk, measure):
        store, table = desk.store_now(), desk.table_now()
        line = f"left {measure_text(measure)}"
        try:
            bounds = left(store, store.part_values(table), measure)
        except NotExtreme as error:
            self.assertRefused(NotExtreme, {"name": error.name}, desk, line)
            return "refused"
        self.assertEqual(desk.tell(line), [word_of(bound) for bound in bounds])
        return "told"

    def assertRefused(self, kind, fields, desk, line):
        before = desk.store_now(), desk.table_now()
        with self.assertRaises(kind, msg=line) as held:
            desk.tell(line)
        self.assertIs(type(held.exception), kind, line)
        self.assertEqual(vars(held.exception), fields, line)
        self.assertState(desk, *before)

    def assertNoCommand(self, place, line, desk=None):
        self.assertRefused(NoCommand, {"place": place}, Desk(SMALL) if desk is None else desk, line)

    def told(self, *lines, space=SMALL):
        desk = Desk(space)
        for line in lines:
            self.assertEqual(desk.tell(line), [], line)
        return desk


class Lines(Telling):
    def test_the_example_of_the_document(self):
        desk = self.told("part n 1 count [x,y]", "put x 3 2")
        self.assertEqual(desk.tell("ask 2 count [x,y]"), ["told 4"])

    def test_a_new_desk(self):
        for space in (SMALL, GRID, LARGE):
            desk = Desk(space=space)
            self.assertState(desk, Store(space), Table(space))
            self.assertQueries(desk, Store(space), Table(space))
            self.assertEqual((desk.tell("values"), desk.tell("size"), desk.journal()), ([], ["0"], []))

    def test_long_rows_of_lines(self):
        source = random.Random(501)
        counts = {}
        for _ in range(40):
            space = source.choice((SMALL, LINE, GRID))
            desk, beside = Desk(space), Beside(space)
            for _ in range(50):
                line, change = drawn_line(source, space, beside)
                word = line.split(" ")[0]
                try:
                    change()
                except PartError as error:
                    self.assertRefused(type(error), vars(error), desk, line)
                    word = word, type(error)
                else:
                    self.assertEqual(desk.tell(line), [])
                counts[word] = counts.get(word, 0) + 1
                self.assertState(desk, *beside.now())
                if source.random() < 0.3:
                    self.assertQueries(desk, *beside.now())
        for word in ("part", "drop", "put", "take", "undo", "redo"):
            self.assertGreater(counts[word], 20)
        for word in (("part", NoPart), ("drop", NoSuch), ("take", NoRows), ("undo", NoUndo), ("redo", NoRedo)):
            self.assertGreater(counts[word], 3, counts)

    def test_ask(self):
        source = random.Random(502)
        found = {}
        for _ in range(250):
            space = source.choice((SMALL, LINE, GRID))
            desk, beside = Desk(space), Beside(space)
            for _ in range(8):
                line, change = drawn_line(source, space, beside)
                try:
                    change()
                except PartError:
                    continue
                desk.tell(line)
            for _ in range(3):
                measure = drawn_measure(source, desk.store_now())
                key = type(measure), self.assertAsk(desk, measure)
                found[key] = found.get(key, 0) + 1
            self.assertState(desk, *beside.now())
        for kind in KINDS:
            for told in (True, False):
                self.assertGreater(found.get((kind, told), 0), 2, (kind, told))

    def test_left(self):
        source = random.Random(503)
        found = {"told": 0, "refused": 0}
        for _ in range(80):
            space = source.choice((SMALL, LINE, GRID))
            desk = Desk(space)
            for number in range(source.randint(0, 6)):
                part = source.choice((Least, Greatest))(drawn_region(source, space))
                if source.random() < 0.05:
                    part = drawn_linear(source, space)
                desk.tell(f"part n{number} {measure_text(part)}")
            for line in table_text(drawn_table(source, space)):
                desk.tell(f"put {line}")
            for _ in range(3):
                found[self.assertLeft(desk, drawn_measure(source, desk.store_now()))] += 1
        self.assertGreater(min(found.values()), 20, found)

    def test_answers(self):
        desk = self.told("part low least [x,y]", "part high greatest [x]", "put x 5 2", "put y -3 10")
        self.assertEqual(desk.tell("names"), ["high", "low"])
        self.assertEqual(desk.tell("values"), ["high 5", "low -3"])
        self.assertEqual(desk.tell("size"), ["12"])
        self.assertEqual(desk.tell("left least [x]"), ["-3", "5"])
        self.assertEqual(desk.tell("left greatest [y]"), [str(MOST), "none"])
        self.assertEqual(desk.tell("left least []"), ["none", "none"])
        self.assertEqual(desk.tell("ask least [x,y]"), ["told -3"])
        self.assertEqual(desk.tell("ask least []"), ["told none"])
        self.assertEqual(desk.tell("ask 1 count [x]")[0], "open")
        desk = self.told("part n 2 count [x,y]", "part s 1/3 sum [x,y]", "part m 1 sum [x,y]", "put x 1 1", "put y 1 2")
        self.assertEqual(desk.tell("values"), ["m 3", "n 6", "s 1"])
        self.assertEqual(desk.tell("trimmed"), ["m", "n"])
        self.assertEqual(desk.tell("needless"), ["m", "s"])
        self.assertEqual(desk.tell("ask quotient 1 count [x,y] over 2 sum [x,y] plus 1 count [x,y]"), ["told 1/3"])
        self.assertEqual(self.told("part n 1 count [x]").tell("ask quotient 1 count [x] over 1 sum [x]")[0], "open")

    def test_values_without_rows(self):
        desk = self.told("part a least [x]", "part b greatest []", "part c 1/2 sum [x]", "part d zero")
        self.assertEqual(desk.tell("values"), ["a none", "b none", "c 0", "d 0"])
        self.assertEqual(desk.tell("ask spread []"), ["told none"])

    def test_a_part_that_is_replaced(self):
        desk = self.told("part a least [x]", "part a 1 count [x]")
        self.assertState(desk, store_of(SMALL, a=count_of(FIRST)), Table(SMALL))
        desk.tell("undo")
        self.assertState(desk, store_of(SMALL, a=Least(FIRST)), Table(SMALL))

    def test_rows_are_added_and_taken(self):
        desk = self.told("put x 3 2", "put x 3 3", f"put y {MOST} {NINES}", "take x 3 4")
        self.assertState(desk, Store(SMALL), Table(SMALL, [(A, 3, 1), (B, MOST, int(NINES))]))
        self.assertEqual(desk.tell("size"), [str(int(NINES) + 1)])

    def test_other_texts_of_a_measure(self):
        desk = self.told("part a 1 count [y,x,y]", "part least least [x] ".strip(), "part ask 1 sum [x] plus 1 sum [y]")
        self.assertState(desk, store_of(SMALL, a=count_of(WHOLE), least=Least(FIRST), ask=sum_of(WHOLE)), Table(SMALL))

    def test_the_lists_are_new(self):
        desk = self.told("part a 1 count [x]", "put x 1 1")
        for line in (*QUERIES, "ask 1 count [x]", "ask least [x]", "undo", "redo"):
            desk.tell(line).append("more")
        for line in ("names", "trimmed"):
            self.assertEqual(desk.tell(line), ["a"])
        self.assertEqual((desk.tell("values"), desk.tell("needless"), desk.tell("size")), (["a 1"], [], ["1"]))
        desk.journal().clear()
        self.assertEqual(len(desk.journal()), 2)

    def test_by_keywords(self):
        desk = Desk(space=SMALL)
        self.assertEqual(desk.tell(line="size"), ["0"])
        self.assertEqual(desk.rehearse(lines=["size"]), [["0"]])


class Refusing(Telling):
    def desk(self):
        return self.told("part a 1 count [x]", "put x 3 2", "put x 4 1", "undo")

    def test_no_such_line(self):
        for line in ("", " ", "  names", "name", "Names", "parts", "asked", "none", "help", "x", "least [x]", "-"):
            self.assertNoCommand(0, line, self.desk())

    def test_words_behind_a_line_of_one_word(self):
        for word in (*QUERIES, "undo", "redo"):
            for rest in (" ", "  ", " x", " x y", " names"):
                self.assertNoCommand(1, word + rest, self.desk())

    def test_part_and_drop(self):
        for word in ("part", "drop"):
            self.assertNoCommand(1, word)
            for name in NO_NAMES:
                for rest in ("", " zero", " none"):
                    self.assertNoCommand(1, f"{word} {name}{rest}", self.desk())
        for rest in (" ", " x", " a b"):
            self.assertNoCommand(2, "drop a" + rest, self.desk())
        for text, place in (
            ("", 0), (" least [x]", 0), ("least", 1), ("least [q]", 1), ("none", 0), ("1 count", 2),
            ("1 count [x] plus", 4),
            ("least [x] ", 2), ("variance", 1), ("quotient 1 count [x] over 2 count", 7), ("spread [x] x", 2),
        ):
            self.assertNoCommand(place + 2, "part n " + text, self.desk())
            self.assertNoCommand(place + 1, "ask " + text, self.desk())
            self.assertNoCommand(place + 1, "left " + text, self.desk())
        self.assertNoCommand(2, "part n")
        self.assertNoCommand(1, "ask")
        self.assertNoCommand(1, "left")

    def test_words_of_measures(self):
        for word in NO_RATIOS:
            self.assertNoCommand(2, f"part n {word} count [x]")
        for word in NO_REGIONS:
            self.assertNoCommand(2, f"ask least {word}")
            self.assertNoCommand(3, f"part n least {word}")
            self.assertNoCommand(3, f"left 1 sum {word}")

    def test_put_and_take(self):
        for word in ("put", "take"):
            for rest, place in (
                ("", 1), (" x", 2), (" x 3", 3), (" x 3 1 1", 4), (" x 3 1 ", 4), (" ", 1), (" x ", 2), (" x 3 ", 3),
                (" x  3 1", 2),
            ):
                self.assertNoCommand(place, word + rest, self.desk())
            for cell in NO_CELLS:
                for rest in ("", " 3 1", " none"):
                    self.assertNoCommand(1, f"{word} {cell}{rest}", self.desk())
            for value in (*NO_INTEGERS, str(MOST + 1), str(-MOST - 1), NINES, NINES + "9"):
                for rest in ("", " 1", " none"):
                    self.assertNoCommand(2, f"{word} x {value}{rest}", self.desk())
            for times in (*NO_INTEGERS, "0", "-1", NINES + "9"):
                for rest in ("", " 1", " "):
                    self.assertNoCommand(3, f"{word} x 3 {times}{rest}", self.desk())

    def test_each_row_of_words(self):
        space = Space([("a", ("x", "y")), ("b", ("u",))])
        measures = {tuple({"1/2": "1", "[x]": "[x.u]"}.get(word, word) for word in text) for text in MEASURES}
        texts = {(word,) for word in (*QUERIES, "undo", "redo")}
        texts |= {("drop", "n"), ("put", "x.u", "1", "1"), ("take", "x.u", "1", "1")}
        texts |= {("part", "n", *text) for text in measures}
        texts |= {(word, *text) for word in ("ask", "left") for text in measures}
        begun = beginnings(texts)
        words = ("part", "drop", "put", "undo", "ask", "names", "n", "x.u", "1", "zero", "sum", "[x.u]", "", "least",
            "quotient")
        checked = 0
        for many in range(1, 5):
            for row in itertools.product(words, repeat=many):
                # Any NAME may stand where "n" does.
                plain = list(row)
                if row[0] in ("part", "drop") and row[1:] and row[1].isalpha():
                    plain[1] = "n"
                place = wrong_place(plain, texts, begun)
                if place is not None and (many < 4 or row[0] in ("part", "put")):
                    self.assertNoCommand(place, " ".join(row), Desk(space))
                    checked += 1
        self.assertGreater(checked, 9000)

    def test_no_part(self):
        for text in ("variance [x]", "spread []", "quotient 1 sum [x] over 1 count [x]"):
            self.assertRefused(NoPart, {}, self.desk(), f"part n {text}")
            self.assertRefused(NoPart, {}, self.desk(), f"part a {text}")

    def test_no_quotient(self):
        for text in ("quotient 1 sum [x] over 2 sum [x]", "quotient zero over zero"):
            for words in ("part n", "ask", "left"):
                self.assertRefused(NoQuotient, {}, self.desk(), f"{words} {text}")
                self.assertNoCommand(len(f"{words} {text}".split(" ")), f"{words} {text} x", self.desk())

    def test_full(self):
        lines = [f"part n{number} least [x]" for number in range(16)]
        desk = self.told(*lines)
        self.assertRefused(Full, {"number": 17}, desk, "part z least [y]")
        self.assertRefused(NoPart, {}, desk, "part z spread [y]")
        self.assertEqual(desk.tell("part n3 1 count [y]"), [])
        self.assertEqual(desk.tell("drop n0"), [])
        self.assertEqual(desk.tell("part z least [y]"), [])
        self.assertEqual(len(desk.store_now()), 16)

    def test_no_such(self):
        self.assertRefused(NoSuch, {"name": "b"}, self.desk(), "drop b")
        self.assertRefused(NoSuch, {"name": "undo"}, self.desk(), "drop undo")

    def test_no_rows(self):
        for line, cell, value in (
            ("take x 3 3", A, 3), ("take x 4 1", A, 4), ("take y 3 1", B, 3), (f"take y {-MOST} 1", B, -MOST),
        ):
            self.assertRefused(NoRows, {"cell": cell, "value": value}, self.desk(), line)

    def test_not_extreme(self):
        desk = self.told("part b10 1 count [x]", "part b9 zero", "part a least [x]")
        for text in ("least [x]", "1 count [x]", "variance [y]", "quotient 1 sum [x] over 1 count [x]"):
            self.assertRefused(NotExtreme, {"name": "b10"}, desk, f"left {text}")
        desk = self.told("part a least [x]")
        for text in ("1 count [x]", "variance [y]", "spread []", "quotient 1 sum [x] over 1 count [x]"):
            self.assertRefused(NotExtreme, {"name": None}, desk, f"left {text}")

    def test_undo_and_redo_with_nothing_left(self):
        desk = Desk(SMALL)
        self.assertRefused(NoUndo, {}, desk, "undo")
        self.assertRefused(NoRedo, {}, desk, "redo")
        desk.tell("put x 1 1")
        self.assertRefused(NoRedo, {}, desk, "redo")
        desk.tell("undo")
        self.assertRefused(NoUndo, {}, desk, "undo")
        desk.tell("redo")
        self.assertRefused(NoRedo, {}, desk, "redo")
        self.assertState(desk, Store(SMALL), Table(SMALL, [(A, 1, 1)]))


class BackAndForth(Telling):
    LINES = ("part a 1 count [x]", "put x 3 2", "part a least [x]", "take x 3 1", "drop a", "put y 1 1")

    def test_all_the_way(self):
        desk, states = Desk(SMALL), []
        for line in self.LINES:
            states.append((desk.store_now(), desk.table_now()))
            desk.tell(line)
        last = desk.store_now(), desk.table_now()
        for _ in range(3):
            for state in reversed(states):
                self.assertEqual(desk.tell("undo"), [])
                self.assertState(desk, *state)
            self.assertRefused(NoUndo, {}, desk, "undo")
            for state in (*states[1:], last):
                self.assertEqual(desk.tell("redo"), [])
                self.assertState(desk, *state)
            self.assertRefused(NoRedo, {}, desk, "redo")

    def test_a_change_behind_undo(self):
        for line in ("put y 9 1", "part z zero", "take x 3 2", "drop a"):
            desk = self.told(*self.LINES[:3], "undo", "undo", "redo", line)
            self.assertRefused(NoRedo, {}, desk, "redo")
            desk.tell("undo")
            self.assertState(desk, store_of(SMALL, a=count_of(FIRST)), Table(SMALL, [(A, 3, 2)]))
            desk.tell("redo")
            self.assertRefused(NoRedo, {}, desk, "redo")

    def test_a_change_that_leaves_all_equal(self):
        desk = self.told("part a 1 count [x]", "part a 1 count [x]", "undo")
        self.assertEqual(desk.tell("names"), ["a"])
        desk.tell("undo")
        self.assertEqual(desk.tell("names"), [])
        self.assertRefused(NoUndo, {}, desk, "undo")

    def test_refused_lines_and_questions_between(self):
        between = (
            "none", "", "part", "part z variance [x]", "drop q", "take y 5 1", "put x 3 0", "undo x", "redo x", "ask",
            "left spread [x]", "part z quotient zero over zero", *QUERIES, "ask 1 count [x]", "ask least [y]",
            "left least []",
        )
        for odd in between:
            desk = self.told(*self.LINES[:3], "undo", "undo")
            for line in (odd, odd):
                try:
                    desk.tell(line)
                except PartError:
                    pass
            self.assertEqual(desk.tell("redo"), [])
            try:
                desk.tell(odd)
            except PartError:
                pass
            self.assertEqual(desk.tell("redo"), [])
            self.assertState(desk, store_of(SMALL, a=Least(FIRST)), Table(SMALL, [(A, 3, 2)]))
            self.assertRefused(NoRedo, {}, desk, "redo")
            for _ in range(3):
                self.assertEqual(desk.tell("undo"), [])
            self.assertRefused(NoUndo, {}, desk, "undo")

    def test_two_desks_go_their_own_ways(self):
        one, other = Desk(SMALL), Desk(SMALL)
        one.tell("part a least [x]")
        other.tell("put x 1 1")
        other.tell("put y 1 1")
        other.tell("undo")
        self.assertState(one, store_of(SMALL, a=Least(FIRST)), Table(SMALL))
        self.assertState(other, Store(SMALL), Table(SMALL, [(A, 1, 1)]))
        self.assertRefused(NoRedo, {}, one, "redo")
        one.tell("undo")
        self.assertState(other, Store(SMALL), Table(SMALL, [(A, 1, 1)]))
        other.tell("redo")
        self.assertRefused(NoUndo, {}, one, "undo")


class Keeping(Telling):
    def test_the_store_is_a_copy(self):
        desk = self.told("part a least [x]", "part b zero", "undo")
        store = desk.store_now()
        store["c"] = Least(WHOLE)
        store.drop("a")
        self.assertState(desk, store_of(SMALL, a=Least(FIRST)), Table(SMALL))
        self.assertEqual(desk.tell("names"), ["a"])
        desk.tell("redo")
        self.assertEqual(desk.tell("names"), ["a", "b"])
        desk.tell("undo")
        desk.tell("undo")
        self.assertEqual(desk.tell("names"), [])
        self.assertEqual(store.names(), ["c"])

    def test_the_store_and_the_table_stay_when_the_desk_goes_on(self):
        desk = self.told("part a least [x]", "put x 1 1")
        store, table = desk.store_now(), desk.table_now()
        for line in ("drop a", "put x 1 1", "undo", "undo", "undo", "undo"):
            desk.tell(line)
        self.assertEqual((store, table), (store_of(SMALL, a=Least(FIRST)), Table(SMALL, [(A, 1, 1)])))

    def test_journals(self):
        source = random.Random(521)
        for _ in range(40):
            space = source.choice((SMALL, LINE, GRID, LARGE))
            desk, beside = Desk(space), Beside(space)
            for _ in range(30):
                line, change = drawn_line(source, space, beside)
                try:
                    change()
                except PartError:
                    continue
                desk.tell(line)
            journal = desk.journal()
            store, table = beside.now()
            self.assertIs(type(journal), list)
            self.assertEqual(journal, [f"part {line}" for line in store_text(store)] + [
                f"put {line}" for line in table_text(table)
            ])
            again = Desk(space)
            for line in journal:
                self.assertEqual(again.tell(line), [])
            self.assertState(again, store, table)
            self.assertEqual(again.journal(), journal)
            self.assertState(desk, store, table)

    def test_a_journal(self):
        parts = ["part b least [y,x]", "part a9 2 count [x]", "part a10 zero"]
        desk = self.told("put y 3 2", *parts, "put x 1 1", "put x -1 1", "drop b")
        self.assertEqual(desk.journal(), [parts[2], parts[1], "put x -1 1", "put x 1 1", "put y 3 2"])
        # Telling a journal does nothing to undo and redo.
        self.assertEqual(desk.tell("undo"), [])
        self.assertEqual(desk.tell("names"), ["a10", "a9", "b"])

    def test_rehearse(self):
        lines = ["part a 1 count [x,y]", "put x 3 2", "values", "undo", "values", "redo", "drop a", "names", "size",
            "ask zero"]
        for given in (lines, tuple(lines)):
            desk = self.told("put y 1 1", "part b least [x]", "undo")
            found = desk.rehearse(given)
            self.assertIs(type(found), list)
            self.assertEqual(found, [[], [], ["a 3"], [], ["a 1"], [], [], [], ["3"], ["told 0"]])
            self.assertState(desk, Store(SMALL), Table(SMALL, [(B, 1, 1)]))
            desk.tell("redo")
            self.assertEqual(desk.tell("names"), ["b"])
            self.assertRefused(NoRedo, {}, desk, "redo")
            desk.tell("undo")
            desk.tell("undo")
            self.assertRefused(NoUndo, {}, desk, "undo")
            self.assertEqual(lines[0], "part a 1 count [x,y]")
        self.assertEqual(Desk(SMALL).rehearse([]), [])

    def test_rehearse_goes_back_behind_the_call(self):
        desk = self.told("put y 1 1", "put x 1 1", "put x 2 1", "undo")
        found = desk.rehearse(["undo", "undo", "size", "redo", "redo", "redo", "size"])
        self.assertEqual(found, [[], [], ["0"], [], [], [], ["3"]])
        self.assertEqual(desk.tell("size"), ["2"])
        self.assertEqual(desk.rehearse(["undo", "put y 5 5", "undo", "size"]), [[], [], [], ["1"]])
        self.assertEqual(desk.tell("redo"), [])
        self.assertEqual(desk.tell("size"), ["3"])

    def test_rehearse_with_an_error(self):
        for line, kind, fields in (
            ("none", NoCommand, {"place": 0}), ("redo", NoRedo, {}), ("drop q", NoSuch, {"name": "q"}), ("put x 1",
            NoCommand, {"place": 3}),
            ("part v variance [x]", NoPart, {}), ("take y 9 1", NoRows, {"cell": B, "value": 9}),
            ("left 1 count [x]", NotExtreme, {"name": "a"}), ("ask quotient zero over zero", NoQuotient, {}),
        ):
            desk = self.told("put y 1 1", "part b least [x]", "undo")
            with self.assertRaises(kind) as held:
                desk.rehearse(["undo", "part a 1 count [x]", "put x 3 2", line, "put x 4 1"])
            self.assertEqual(vars(held.exception), fields)
            self.assertState(desk, Store(SMALL), Table(SMALL, [(B, 1, 1)]))
            self.assertEqual(desk.tell("redo"), [])
            self.assertEqual(desk.tell("names"), ["b"])
            self.assertRefused(NoRedo, {}, desk, "redo")
            for _ in range(2):
                desk.tell("undo")
            self.assertRefused(NoUndo, {}, desk, "undo")
        with self.assertRaises(NoUndo):
            Desk(SMALL).rehearse(["put x 1 1", "undo", "undo"])

    def test_rehearsed_lines_are_as_told_ones(self):
        source = random.Random(522)
        for _ in range(30):
            desk, beside = Desk(LINE), Beside(LINE)
            lines = []
            for _ in range(25):
                line, change = drawn_line(source, LINE, beside)
                try:
                    change()
                except PartError:
                    continue
                lines.extend([line, source.choice(QUERIES)])
            cut = source.randint(0, len(lines))
            for line in lines[:cut]:
                desk.tell(line)
            before = desk.journal()
            found = desk.rehearse(lines[cut:])
            self.assertEqual(desk.journal(), before)
            self.assertEqual([desk.tell(line) for line in lines[cut:]], found)
            self.assertState(desk, *beside.now())


if __name__ == "__main__":
    unittest.main()
