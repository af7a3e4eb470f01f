"""Promises [18], [19], [20], [22] and [23]: what a store tells, and what shows it."""

import itertools
import random
import unittest

from drawn import (
    EXTREMES, GRID, LARGE, LINE, MARKS, OTHER, SMALL, all_regions, drawn_combination, drawn_linear, drawn_marks,
    drawn_measure, drawn_part, drawn_region, drawn_store, drawn_table, inside_names, is_told, named_measures, store_of,
    trimmed_names,
)
from partstell.errors import OtherSpace
from partstell.linear import Linear, count_of, squares_of, sum_of
from partstell.measures import Greatest, Least, Quotient, Spread, Variance, mean_of
from partstell.ratios import Ratio
from partstell.regions import Region
from partstell.spaces import Space
from partstell.stores import Store
from partstell.tables import Table
from partstell.telling import check_twins, check_way, tells, trimmed, twins_of, way_of
from partstell.ways import Twins, Way

X, Y = SMALL.cells
MOST_TIMES = 10 ** 12


class Helping(unittest.TestCase):
    def assertWayFits(self, store, measure, way):
        """Check the form of a way that way_of returned."""
        self.assertIs(type(way), Way)
        self.assertEqual(way.measure, measure)
        if isinstance(measure, Linear):
            self.assertIs(type(way.pieces), dict)
            total = measure * 0
            kept = trimmed_names(store)
            for name, factor in way.pieces.items():
                self.assertIs(type(factor), Ratio)
                self.assertNotEqual(factor, 0)
                self.assertIn(name, kept)
                total = total + store[name] * factor
            self.assertEqual(total, measure)
        elif isinstance(measure, (Least, Greatest)):
            self.assertEqual(way.pieces, tuple(inside_names(store, measure)))
            self.assertIs(type(way.pieces), tuple)
        else:
            self.assertIs(type(way.pieces), tuple)
            below = named_measures(measure)
            self.assertEqual(len(way.pieces), len(below))
            for each, piece in zip(below, way.pieces):
                self.assertWayFits(store, each, piece)
                self.assertEqual(piece, way_of(store, each))

    def assertTold(self, store, measure, source):
        self.assertIs(tells(store, measure), True)
        self.assertIsNone(twins_of(store, measure))
        way = way_of(store, measure)
        self.assertWayFits(store, measure, way)
        self.assertIs(check_way(store, measure, way), True)
        self.assertIs(check_twins(store, measure, way), False)
        self.assertEqual(way_of(store, measure), way)
        for _ in range(4):
            table = drawn_table(source, store.space)
            value = way.answer(store.part_values(table))
            self.assertEqual(value, measure(table))
            self.assertIs(type(value), type(measure(table)))

    def assertUntold(self, store, measure, most_times=None):
        self.assertIs(tells(store, measure), False)
        self.assertIsNone(way_of(store, measure))
        twins = twins_of(store, measure)
        self.assertIs(type(twins), Twins)
        self.assertEqual(twins_of(store, measure), twins)
        for table in (twins.one, twins.other):
            self.assertIs(type(table), Table)
            self.assertEqual(table.space, store.space)
            self.assertLessEqual(len(table), 500)
            for cell, value, times in table.rows:
                self.assertLessEqual(abs(value), 9)
                if most_times is not None:
                    self.assertLessEqual(times, most_times)
        self.assertEqual(store.part_values(twins.one), store.part_values(twins.other))
        self.assertNotEqual(measure(twins.one), measure(twins.other))
        self.assertIs(check_twins(store, measure, twins), True)
        self.assertIs(check_way(store, measure, twins), False)

    def assertRight(self, store, measure, source, most_times=None):
        told = is_told(store, measure)
        if told:
            self.assertTold(store, measure, source)
        else:
            self.assertUntold(store, measure, most_times)
        return told


class Telling(Helping):
    def test_drawn(self):
        source = random.Random(11)
        found = {}
        for _ in range(400):
            store = drawn_store(source, source.choice((SMALL, LINE, GRID)))
            measure = drawn_measure(source, store)
            told = self.assertRight(store, measure, source)
            key = type(measure).__name__, told
            found[key] = found.get(key, 0) + 1
        for kind in ("Linear", "Least", "Greatest", "Quotient", "Variance", "Spread"):
            for told in (True, False):
                self.assertGreater(found[kind, told], 5, (kind, told))

    def test_drawn_marks(self):
        source = random.Random(12)
        for _ in range(60):
            store = drawn_store(source, source.choice((SMALL, LINE, GRID, LARGE)), draw=drawn_marks, most=13)
            region = drawn_region(source, store.space)
            more = drawn_region(source, store.space)
            measures = [made(region) for made in (*MARKS, *EXTREMES, Variance, Spread)]
            if len(region) > 0:
                measures.extend([mean_of(region), Quotient(squares_of(region), count_of(region))])
            if len(region) > 0 and len(more) > 0 and region != more:
                measures.append(Quotient(count_of(region), count_of(more)))
            for measure in measures:
                self.assertRight(store, measure, source, MOST_TIMES)

    def test_16_parts_of_24_cells(self):
        source = random.Random(13)
        for _ in range(2):
            store = store_of(LARGE, *(drawn_linear(source, LARGE) for _ in range(16)))
            self.assertTold(store, drawn_combination(source, store), source)
            self.assertRight(store, drawn_linear(source, LARGE), source)
            self.assertRight(store, Variance(LARGE.whole()), source)
        store = store_of(LARGE, *(count_of(Region(LARGE, source.sample(LARGE.cells, 12))) for _ in range(16)))
        for cell in LARGE.cells:
            self.assertRight(store, count_of(Region(LARGE, [cell])), source, MOST_TIMES)
            self.assertRight(store, mean_of(Region(LARGE, [cell])), source, MOST_TIMES)

    def test_all_regions_of_a_small_line(self):
        regions = list(all_regions(Space([("a", ("x", "y", "z"))])))
        source = random.Random(14)
        for kind in (Least, Greatest, Spread):
            for region in regions:
                for one, other in itertools.combinations(regions, 2):
                    store = store_of(region.space, *(made(part) for made in EXTREMES for part in (one, other)))
                    self.assertRight(store, kind(region), source, 1)

    def test_without_parts(self):
        source = random.Random(15)
        for space in (SMALL, LARGE):
            store, whole, empty = Store(space), space.whole(), space.empty()
            for made in (*MARKS, *EXTREMES, Variance, Spread):
                self.assertTold(store, made(empty), source)
                self.assertUntold(store, made(whole), MOST_TIMES)
            self.assertUntold(store, mean_of(whole), MOST_TIMES)
            self.assertEqual(way_of(store, count_of(empty)).pieces, {})
            self.assertEqual(way_of(store, Least(empty)).pieces, ())
            self.assertEqual(trimmed(store), [])

    def test_one_kind_never_helps_the_other(self):
        whole = SMALL.whole()
        extremes = store_of(SMALL, Least(whole), Greatest(whole), Least(Region(SMALL, [X])))
        for measure in (count_of(whole), sum_of(whole), mean_of(whole), Variance(whole)):
            self.assertUntold(extremes, measure, MOST_TIMES)
        linear = store_of(SMALL, count_of(whole), sum_of(whole), squares_of(whole), count_of(Region(SMALL, [X])))
        for measure in (Least(whole), Greatest(whole), Spread(whole)):
            self.assertUntold(linear, measure, MOST_TIMES)
        self.assertUntold(store_of(SMALL, Least(whole)), Greatest(whole), 1)
        self.assertUntold(store_of(SMALL, Least(whole)), Spread(whole), 1)
        self.assertUntold(store_of(SMALL, Greatest(whole)), Spread(whole), 1)

    def test_each_measure_under_a_variance_is_asked_for(self):
        whole = LINE.whole()
        for measures in itertools.combinations([made(whole) for made in MARKS], 2):
            self.assertUntold(store_of(LINE, *measures), Variance(whole), MOST_TIMES)
        source = random.Random(16)
        self.assertTold(store_of(LINE, *(made(whole) for made in MARKS)), Variance(whole), source)

    def test_top_and_bottom_are_both_asked_for(self):
        whole = SMALL.whole()
        self.assertUntold(store_of(SMALL, sum_of(whole)), mean_of(whole), MOST_TIMES)
        self.assertUntold(store_of(SMALL, count_of(whole)), mean_of(whole), MOST_TIMES)
        self.assertTold(store_of(SMALL, count_of(whole) * 3, sum_of(whole).over(7)), mean_of(whole), random.Random(1))

    def test_fractions_and_huge_factors(self):
        source = random.Random(17)
        huge = 10 ** 60 + 7
        one = Linear(SMALL, [huge, Ratio(1, huge)], [0, Ratio(-3, 7)], [1, 0])
        other = Linear(SMALL, [1, Ratio(5, 3)], [huge, 0], [0, Ratio(1, 11)])
        store = store_of(SMALL, one, other)
        measure = one * Ratio(huge, 3) - other.over(huge)
        self.assertTold(store, measure, source)
        self.assertEqual(way_of(store, measure).pieces, {"p0": Ratio(huge, 3), "p1": Ratio(-1, huge)})
        self.assertUntold(store, measure + Linear(SMALL, [0, 0], [0, 0], [0, Ratio(1, huge)]))
        self.assertUntold(store, Quotient(measure, count_of(SMALL.whole())))

    def test_unions_that_overlap(self):
        source = random.Random(18)
        cells = LINE.cells
        parts = [Region(LINE, cells[:2]), Region(LINE, cells[1:3]), Region(LINE, cells[2:]), Region(LINE, cells[:1])]
        for kind in EXTREMES:
            store = store_of(LINE, *(kind(part) for part in parts))
            self.assertTold(store, kind(LINE.whole()), source)
            self.assertTold(store, kind(Region(LINE, cells[:3])), source)
            self.assertUntold(store, kind(Region(LINE, [cells[0], cells[2], cells[3], cells[1]][:2])), 1)
            self.assertUntold(store, kind(Region(LINE, [cells[1], cells[3]])), 1)
            self.assertUntold(store_of(LINE, kind(LINE.whole())), kind(parts[0]), 1)

    def test_values_that_are_none_on_one_table(self):
        region = Region(SMALL, [X])
        store = store_of(SMALL, count_of(SMALL.whole()), Least(SMALL.whole()))
        for measure in (mean_of(region), Variance(region), Spread(region), Quotient(count_of(region), sum_of(region))):
            self.assertUntold(store, measure, MOST_TIMES)

    def test_other_space_before_anything_else(self):
        for store in (Store(SMALL), store_of(SMALL, count_of(SMALL.whole()))):
            for made in (*MARKS, *EXTREMES, Variance, Spread):
                measure = made(OTHER.empty())
                for function in (tells, way_of, twins_of):
                    with self.assertRaises(OtherSpace):
                        function(store, measure)
                for candidate in (None, way_of(Store(OTHER), measure), Twins(Table(OTHER), Table(OTHER))):
                    for function in (check_way, check_twins):
                        with self.assertRaises(OtherSpace):
                            function(store, measure, candidate)
            with self.assertRaises(OtherSpace):
                tells(store, mean_of(OTHER.whole()))

    def test_by_keywords(self):
        store, measure = store_of(SMALL, count_of(SMALL.whole())), count_of(SMALL.whole())
        self.assertIs(tells(measure=measure, store=store), True)
        self.assertEqual(trimmed(store=store), ["p0"])
        way = way_of(measure=measure, store=store)
        self.assertIs(check_way(candidate=way, measure=measure, store=store), True)
        other = sum_of(SMALL.whole())
        twins = twins_of(measure=other, store=store)
        self.assertIs(check_twins(candidate=twins, measure=other, store=store), True)

    def test_the_store_stays_as_it_was(self):
        source = random.Random(19)
        for _ in range(20):
            store = drawn_store(source, GRID)
            before = store.copy()
            measure = drawn_measure(source, store)
            for function in (tells, way_of, twins_of):
                function(store, measure)
            trimmed(store)
            check_way(store, measure, way_of(store, measure))
            check_twins(store, measure, twins_of(store, measure))
            self.assertEqual(store, before)

    def test_a_way_stays_as_it_was_when_the_store_changes(self):
        whole = SMALL.whole()
        store = store_of(SMALL, count_of(whole), Least(whole))
        way, least = way_of(store, count_of(whole)), way_of(store, Least(whole))
        store.drop("p0")
        store.drop("p1")
        self.assertEqual(way.pieces, {"p0": Ratio(1)})
        self.assertEqual(least.pieces, ("p1",))
        self.assertIs(check_way(store, count_of(whole), way), False)


class Trimming(unittest.TestCase):
    def test_drawn(self):
        source = random.Random(21)
        for _ in range(250):
            store = drawn_store(source, source.choice((SMALL, LINE, GRID)), source.choice((drawn_part, drawn_marks)))
            names = trimmed(store)
            self.assertIs(type(names), list)
            self.assertEqual(names, trimmed_names(store))

    def test_equal_parts_under_two_names(self):
        for part in (count_of(SMALL.whole()), Least(SMALL.whole()), Greatest(SMALL.whole())):
            self.assertEqual(trimmed(store_of(SMALL, b=part, a=part, c=part)), ["a"])

    def test_multiples(self):
        part = count_of(SMALL.whole())
        self.assertEqual(trimmed(store_of(SMALL, z=part, y=part * 3, x=-part)), ["x"])
        self.assertEqual(trimmed(store_of(SMALL, a=part * 0)), [])

    def test_names_ascend_as_strings(self):
        parts = {name: count_of(Region(SMALL, [X])) * 2 for name in ("a9", "a10")}
        self.assertEqual(trimmed(store_of(SMALL, **parts)), ["a10"])

    def test_later_least_parts_count_too(self):
        store = store_of(SMALL, a=Least(SMALL.whole()), b=Least(Region(SMALL, [X])))
        self.assertEqual(trimmed(store), ["a", "b"])
        store["c"] = Least(Region(SMALL, [Y]))
        self.assertEqual(trimmed(store), ["b", "c"])
        store["c"] = Greatest(Region(SMALL, [Y]))
        self.assertEqual(trimmed(store), ["a", "b", "c"])

    def test_empty_regions_are_never_kept(self):
        store = store_of(SMALL, Least(SMALL.empty()), Greatest(SMALL.empty()), sum_of(SMALL.empty()))
        self.assertEqual(trimmed(store), [])

    def test_a_region_between_is_dropped_with_one_of_its_own_parts(self):
        cells = LINE.cells
        store = store_of(
            LINE, a=Least(Region(LINE, cells[:3])), b=Least(Region(LINE, cells[:2])), c=Least(Region(LINE, cells[1:3])),
            d=Least(Region(LINE, cells[:1])), e=Least(LINE.whole()),
        )
        self.assertEqual(trimmed(store), ["b", "c", "d", "e"])

    def test_the_list_is_new(self):
        store = store_of(SMALL, count_of(SMALL.whole()))
        trimmed(store).clear()
        self.assertEqual(trimmed(store), ["p0"])

    def test_kept_parts_tell_the_same(self):
        source = random.Random(22)
        for _ in range(100):
            store = drawn_store(source, GRID)
            kept = store_of(GRID, **{name: store[name] for name in trimmed(store)})
            measure = drawn_measure(source, store)
            self.assertIs(tells(kept, measure), tells(store, measure))
            self.assertEqual(way_of(kept, measure), way_of(store, measure))
            for name in store.names():
                self.assertIs(tells(kept, store[name]), True)


class CheckingWays(unittest.TestCase):
    def setUp(self):
        whole, first, second = SMALL.whole(), Region(SMALL, [X]), Region(SMALL, [Y])
        self.parts = {
            "all": count_of(whole), "cx": count_of(first), "cy": count_of(second), "s": sum_of(whole),
            "lx": Least(first), "ly": Least(second), "lw": Least(whole), "le": Least(SMALL.empty()),
            "gx": Greatest(first), "gy": Greatest(second), "gw": Greatest(whole), "q": squares_of(whole),
        }
        self.store = store_of(SMALL, **self.parts)

    def check(self, wanted, measure, pieces):
        self.assertIs(check_way(self.store, measure, Way(measure, pieces)), wanted, pieces)

    def test_linear(self):
        one, whole = Ratio(1), count_of(SMALL.whole())
        for pieces in (
            {"all": one}, {"cx": one, "cy": one}, {"cy": one, "cx": one},
            {"all": Ratio(3), "cx": Ratio(-2), "cy": Ratio(-2)},
            {"all": Ratio(1, 2), "cy": Ratio(1, 2), "cx": Ratio(1, 2)},
        ):
            self.check(True, whole, pieces)
        for pieces in (
            {}, {"cx": one}, {"all": Ratio(2)}, {"all": 1}, {"all": True}, {"all": one, "s": Ratio(0)},
            {"all": one, "s": 0}, {"all": one, "none": one}, {"none": one}, {"all": one, "lx": one}, {"all": None},
            {"all": one, 1: one}, {"all": one, ("all",): one}, {"all": one, None: one}, {"all": one, True: one},
            {"all": "1"}, {"all": [one]}, {"all": one, "": one}, {"all": whole}, {"ALL": one}, {b"all": one},
            ("all",), ["all"], [("all", one)], "all", None, 1, True, (), [], one, whole, {"all": {}},
        ):
            self.check(False, whole, pieces)

    def test_linear_measure_0(self):
        zero = sum_of(SMALL.empty())
        self.check(True, zero, {})
        self.check(True, zero, {"all": Ratio(1), "cx": Ratio(-1), "cy": Ratio(-1)})
        for pieces in ((), [], None, {"all": Ratio(0)}, {"all": Ratio(1)}, 0, ""):
            self.check(False, zero, pieces)

    def test_least_and_greatest(self):
        for kind, sign in ((Least, "l"), (Greatest, "g")):
            whole, x, y = sign + "w", sign + "x", sign + "y"
            for pieces in ((whole,), (x, y), (whole, x), (whole, x, y), [x, y], [whole]):
                self.check(True, kind(SMALL.whole()), pieces)
            for pieces in (
                (), (x,), (y,), (y, x), (x, whole), (x, x, y), (whole, whole), ("none",), (whole, "none"), ("all",),
                ("cx", "cy"), (whole, "s"), (1,), (None,), ([whole],), ((whole,),), {whole: True}, {whole: Ratio(1)},
                whole, "", None, True, 5, [y, x], [], (whole, None), ({},), (whole.upper(),), (whole.encode(),),
                ("gx" if sign == "l" else "lx", "gy" if sign == "l" else "ly"), (whole, Ratio(1)),
            ):
                self.check(False, kind(SMALL.whole()), pieces)
            self.check(True, kind(Region(SMALL, [X])), (x,))
            for pieces in ((whole,), (whole, x), (x, y), (y,), ()):
                self.check(False, kind(Region(SMALL, [X])), pieces)
        self.check(True, Least(Region(SMALL, [X])), ("le", "lx"))
        self.check(True, Least(SMALL.empty()), ())
        self.check(True, Least(SMALL.empty()), ("le",))
        self.check(True, Greatest(SMALL.empty()), [])
        self.check(False, Greatest(SMALL.empty()), ("le",))
        self.check(False, Least(SMALL.empty()), {})

    def test_measures_that_rest_on_others(self):
        region = SMALL.whole()
        for measure in (mean_of(region), Variance(region), Spread(region), Quotient(count_of(region), sum_of(region))):
            ways = [way_of(self.store, each) for each in named_measures(measure)]
            self.check(True, measure, tuple(ways))
            self.check(True, measure, ways)
            for pieces in (
                tuple(ways[1:]), tuple(ways[:-1]), (*ways, ways[0]), tuple(reversed(ways)), (), [], None,
                {0: ways[0], 1: ways[1]}, ways[0], (None,) * len(ways), (*ways[:-1], None), (ways[0],) * len(ways),
                (*ways[:-1], ways[-1].pieces), (*ways[1:], 1), tuple(named_measures(measure)), "ab", "abc", 2, True,
            ):
                self.check(False, measure, pieces)
            for number, way in enumerate(ways):
                wrong = list(ways)
                wrong[number] = Way(way.measure, {"none": Ratio(1)} if isinstance(way.pieces, dict) else ("none",))
                self.check(False, measure, wrong)

    def test_other_right_pieces_at_a_place(self):
        region = SMALL.whole()
        count = Way(count_of(region), {"cx": Ratio(1), "cy": Ratio(1)})
        self.check(True, mean_of(region), (Way(sum_of(region), {"s": Ratio(1)}), count))
        self.check(True, Spread(region), (Way(Greatest(region), ("gx", "gy")), Way(Least(region), ("lw", "lx"))))

    def test_a_way_of_another_measure(self):
        whole, first = SMALL.whole(), Region(SMALL, [X])
        measures = [made(region) for made in (*MARKS, *EXTREMES, Variance, Spread) for region in (whole, SMALL.empty())]
        measures.extend([mean_of(whole), count_of(first), Least(first)])
        for measure, other in itertools.product(measures, repeat=2):
            way = way_of(self.store, other)
            self.assertIs(check_way(self.store, measure, way), measure == other)
        for measure in measures:
            way = way_of(self.store, measure)
            for wrong in (None, "m", 1, [measure], self.store, Ratio(0), SMALL, Way, Table(SMALL)):
                self.assertIs(check_way(self.store, measure, Way(wrong, way.pieces)), False)

    def test_anything_as_a_candidate(self):
        whole = SMALL.whole()
        for measure in (count_of(whole), Least(whole), mean_of(whole), Variance(whole), Spread(whole)):
            way = way_of(self.store, measure)
            for odd in (
                None, 0, 1, True, False, "way", b"", (), [], {}, way.pieces, (measure, way.pieces), [way], Way, measure,
                self.store, SMALL, Ratio(1), Twins(1, 2), Table(SMALL), whole, {"measure": measure}, ValueError(), len,
            ):
                self.assertIs(check_way(self.store, measure, odd), False)

    def test_parts_that_trimming_drops(self):
        self.assertNotIn("cy", trimmed(self.store))
        self.check(True, count_of(Region(SMALL, [Y])), {"cy": Ratio(1)})
        self.assertNotIn("lw", trimmed(self.store))
        self.check(True, Least(SMALL.whole()), ("lw",))


class CheckingTwins(unittest.TestCase):
    def setUp(self):
        self.whole = SMALL.whole()
        self.store = store_of(SMALL, sum_of(self.whole), Least(self.whole))

    def test_any_right_twins(self):
        one = Table(SMALL, [(X, 10 ** 30, 10 ** 40), (Y, -(10 ** 30), 10 ** 40)])
        other = Table(SMALL, [(Y, 10 ** 30, 1), (Y, -(10 ** 30), 1)])
        for measure in (count_of(self.whole), Variance(Region(SMALL, [X])), Greatest(Region(SMALL, [X]))):
            self.assertIs(check_twins(self.store, measure, Twins(one, other)), True)
            self.assertIs(check_twins(self.store, measure, Twins(other, one)), True)

    def test_tables_of_more_than_500_triples(self):
        one = Table(SMALL, [(X, value, 1) for value in range(500)])
        one = one + Table(SMALL, [(Y, value, 1) for value in range(500)])
        self.assertIs(check_twins(self.store, count_of(self.whole), Twins(one, one.put(X, 0))), True)

    def test_a_part_that_is_unlike(self):
        one, other = Table(SMALL, [(X, 1, 1), (Y, 1, 1)]), Table(SMALL, [(X, 1, 1), (Y, 1, 2)])
        self.assertIs(check_twins(self.store, count_of(self.whole), Twins(one, other)), False)
        one, other = Table(SMALL, [(X, 1, 1), (X, -1, 1)]), Table(SMALL, [(X, 2, 1), (X, -2, 1)])
        self.assertIs(check_twins(self.store, squares_of(self.whole), Twins(one, other)), False)
        self.assertIs(check_twins(Store(SMALL), squares_of(self.whole), Twins(one, other)), True)

    def test_a_measure_that_is_alike(self):
        one = Table(SMALL, [(X, 1, 1)])
        self.assertIs(check_twins(self.store, count_of(self.whole), Twins(one, one)), False)
        self.assertIs(check_twins(self.store, count_of(self.whole), Twins(Table(SMALL), Table(SMALL))), False)

    def test_none_is_unlike_a_value(self):
        one, other = Table(SMALL), Table(SMALL, [(X, 0, 1)])
        for measure in (mean_of(self.whole), Variance(self.whole), Spread(self.whole), Greatest(self.whole)):
            self.assertIs(check_twins(Store(SMALL), measure, Twins(one, other)), True)
            self.assertIs(check_twins(Store(SMALL), measure, Twins(other, other)), False)

    def test_tables_of_another_space(self):
        one, other = Table(OTHER), Table(OTHER, [(("x",), 0, 1)])
        good = Table(SMALL, [(X, 0, 1)])
        for pair in ((one, other), (good, other), (one, good)):
            self.assertIs(check_twins(Store(SMALL), count_of(self.whole), Twins(*pair)), False)

    def test_an_equal_space(self):
        space = Space([["a", ["x", "y"]]])
        twins = Twins(Table(space), Table(space, [(X, 0, 1)]))
        self.assertIs(check_twins(Store(SMALL), count_of(self.whole), twins), True)

    def test_fields_that_are_no_tables(self):
        good = Table(SMALL, [(X, 0, 1)])
        for odd in (None, 1, True, "t", (), good.rows, [], {}, SMALL, self.whole, self.store, Ratio(0), Table):
            for pair in ((odd, good), (good, odd), (odd, odd)):
                self.assertIs(check_twins(Store(SMALL), count_of(self.whole), Twins(*pair)), False)

    def test_anything_as_a_candidate(self):
        one, other = Table(SMALL), Table(SMALL, [(X, 0, 1)])
        measure = count_of(self.whole)
        self.assertIs(check_twins(Store(SMALL), measure, Twins(one, other)), True)
        for odd in (
            None, 0, True, False, "twins", b"", (), [], {}, (one, other), [one, other], {"one": one, "other": other},
            Twins, one, measure, self.store, SMALL, Ratio(1), Way(one, other), [Twins(one, other)], ValueError(), len,
        ):
            self.assertIs(check_twins(Store(SMALL), measure, odd), False)


if __name__ == "__main__":
    unittest.main()
