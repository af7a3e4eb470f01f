"""Promises [24] and [30] to [33]: stores compared."""

import operator
import random
import unittest

from partstell.compared import alike, joined, needless, parting
from partstell.errors import Full, OtherSpace, Twice
from partstell.linear import Linear, count_of, squares_of, sum_of
from partstell.measures import Greatest, Least, Spread, Variance, mean_of
from partstell.ratios import Ratio
from partstell.regions import Region
from partstell.spaces import Space
from partstell.stores import Store
from partstell.telling import check_twins, tells, trimmed
from partstell.ways import Twins

SPACE = Space([("a", ("x", "y", "z"))])
OTHER = Space([("a", ("x", "y", "q"))])
X, Y, Z = SPACE.cells
WHOLE = SPACE.whole()
FIRST = Region(SPACE, [X])
REST = ~FIRST
ORDERS = (operator.le, operator.lt, operator.ge, operator.gt)
MARKS = (count_of, sum_of, squares_of)


def store_of(*parts, space=SPACE, **named):
    store = Store(space)
    for number, part in enumerate(parts):
        store[f"p{number}"] = part
    for name, part in named.items():
        store[name] = part
    return store


def drawn_region(source):
    return Region(SPACE, source.sample(SPACE.cells, source.randint(0, 3)))


def drawn_part(source):
    kind = source.choice((*MARKS, Least, Least, Greatest))
    part = kind(drawn_region(source))
    if isinstance(part, Linear):
        part = part * source.choice((1, 1, -2, Ratio(1, 3)))
    if isinstance(part, Linear) and source.random() < 0.4:
        part = part + source.choice(MARKS)(drawn_region(source))
    return part


def drawn_store(source, most=5):
    names = source.sample(["a", "b", "b1", "c", "d", "e", "zz"], source.randint(0, most))
    return store_of(**{name: drawn_part(source) for name in names})


def drawn_measures(source):
    regions = [drawn_region(source) for _ in range(4)]
    measures = [kind(region) for kind in (*MARKS, Least, Greatest, Spread, Variance) for region in regions]
    return measures + [mean_of(region) for region in regions if len(region) > 0]


def drawn_pairs(number, many):
    """Give pairs of stores, of which many tell much of each other."""
    source = random.Random(number)
    for _ in range(many):
        one = drawn_store(source)
        other = drawn_store(source)
        if source.random() < 0.6:
            other = one.copy()
            for name in other.names():
                if source.random() < 0.3:
                    other.drop(name)
                elif isinstance(other[name], Linear) and source.random() < 0.3:
                    other[name] = other[name] * 2
            if source.random() < 0.3:
                other["new"] = drawn_part(source)
        yield one, other


def tells_all(teller, store):
    return all(tells(teller, store[name]) for name in store.names())


class Ordering(unittest.TestCase):
    def assertOrder(self, one, other, forth, back):
        self.assertIs(one <= other, forth)
        self.assertIs(one >= other, back)
        self.assertIs(one < other, forth and not back)
        self.assertIs(one > other, back and not forth)
        self.assertIs(alike(one, other), forth and back)

    def test_each_case(self):
        empty = Store(SPACE)
        count, parts = store_of(count_of(WHOLE)), store_of(count_of(FIRST), count_of(REST))
        doubled = store_of(a=count_of(WHOLE) * 2)
        self.assertOrder(empty, empty, True, True)
        self.assertOrder(empty, count, True, False)
        self.assertOrder(count, parts, True, False)
        self.assertOrder(parts, count, False, True)
        self.assertOrder(count, doubled, True, True)
        self.assertOrder(count, store_of(Least(WHOLE)), False, False)
        self.assertOrder(store_of(Least(WHOLE)), store_of(Least(FIRST), Least(REST)), True, False)
        self.assertOrder(store_of(Least(WHOLE)), store_of(Greatest(WHOLE)), False, False)
        self.assertOrder(empty, store_of(sum_of(SPACE.empty()), Greatest(SPACE.empty())), True, True)
        self.assertIs(count == doubled, False)

    def test_drawn(self):
        found = {}
        for one, other in drawn_pairs(31, 300):
            forth, back = tells_all(other, one), tells_all(one, other)
            self.assertOrder(one, other, forth, back)
            found[forth, back] = found.get((forth, back), 0) + 1
        self.assertGreater(min(found.values()), 10)
        self.assertEqual(len(found), 4)

    def test_other_space(self):
        for one, other in (
            (Store(SPACE), Store(OTHER)), (store_of(count_of(WHOLE)), Store(OTHER)),
            (Store(SPACE), store_of(count_of(OTHER.whole()), space=OTHER)),
        ):
            for order in ORDERS:
                with self.assertRaises(OtherSpace):
                    order(one, other)
                with self.assertRaises(OtherSpace):
                    order(other, one)

    def test_an_equal_space(self):
        self.assertIs(Store(SPACE) <= Store(Space([["a", ["x", "y", "z"]]])), True)

    def test_the_stores_stay(self):
        for one, other in drawn_pairs(32, 20):
            before = one.copy(), other.copy()
            for function in (*ORDERS, alike, parting):
                function(one, other)
            self.assertEqual((one, other), before)


class Joining(unittest.TestCase):
    def test_parts_of_both(self):
        one, other = store_of(a=count_of(WHOLE), c=Least(FIRST)), store_of(b=sum_of(WHOLE), a=count_of(WHOLE))
        both = joined(one, other)
        self.assertIs(type(both), Store)
        self.assertEqual(both, store_of(a=count_of(WHOLE), b=sum_of(WHOLE), c=Least(FIRST)))
        self.assertEqual(joined(other=other, one=one), joined(other, one))
        self.assertEqual(one.names(), ["a", "c"])
        self.assertEqual(other.names(), ["a", "b"])

    def test_a_new_store(self):
        one, other = store_of(a=count_of(WHOLE)), Store(SPACE)
        for both in (joined(one, other), joined(other, one), joined(one, one)):
            self.assertEqual(both, one)
            both.drop("a")
            both["b"] = Least(WHOLE)
            self.assertEqual((one.names(), other.names()), (["a"], []))

    def test_the_first_name_with_unequal_parts(self):
        one = store_of(a=count_of(WHOLE), b=Least(WHOLE), b1=sum_of(WHOLE), c=sum_of(FIRST))
        other = store_of(c=sum_of(REST), b1=sum_of(WHOLE) * 2, b=Least(WHOLE), a0=count_of(FIRST))
        for pair in ((one, other), (other, one)):
            with self.assertRaises(Twice) as held:
                joined(*pair)
            self.assertEqual(held.exception.name, "b1")

    def test_parts_that_tell_the_same_are_not_equal(self):
        with self.assertRaises(Twice) as held:
            joined(store_of(a=count_of(WHOLE)), store_of(a=-count_of(WHOLE)))
        self.assertEqual(held.exception.name, "a")

    def test_16_and_17_names(self):
        parts = {f"n{number}": count_of(WHOLE) for number in range(32)}

        def some(first, behind):
            return store_of(**{f"n{number}": parts[f"n{number}"] for number in range(first, behind)})

        self.assertEqual(joined(some(0, 8), some(8, 16)), some(0, 16))
        self.assertEqual(joined(some(0, 16), some(0, 16)), some(0, 16))
        self.assertEqual(joined(some(0, 12), some(4, 16)), some(0, 16))
        for one, other, many in (
            (some(0, 8), some(8, 17), 17), (some(0, 16), some(16, 32), 32), (some(0, 16), some(15, 17), 17),
            (some(5, 21), some(0, 10), 21),
        ):
            for pair in ((one, other), (other, one)):
                with self.assertRaises(Full) as held:
                    joined(*pair)
                self.assertEqual(held.exception.number, many)

    def test_the_first_error_that_is_due(self):
        one = store_of(**{f"n{number}": count_of(WHOLE) for number in range(16)})
        other = store_of(**{f"m{number}": count_of(WHOLE) for number in range(15)}, n7=sum_of(WHOLE))
        with self.assertRaises(Twice) as held:
            joined(one, other)
        self.assertEqual(held.exception.name, "n7")
        elsewhere = Store(OTHER)
        for number in range(16):
            elsewhere[f"n{number + 5}"] = sum_of(OTHER.whole())
        for pair in ((one, elsewhere), (elsewhere, one), (Store(SPACE), Store(OTHER))):
            with self.assertRaises(OtherSpace):
                joined(*pair)


class Parting(unittest.TestCase):
    def assertParted(self, one, other, side, name):
        found = parting(one, other)
        self.assertIs(type(found), tuple)
        self.assertEqual(len(found), 3)
        self.assertEqual(found[:2], (side, name))
        self.assertIs(type(found[2]), Twins)
        holder, teller = (one, other) if side == "left" else (other, one)
        self.assertIs(check_twins(teller, holder[name], found[2]), True)
        self.assertEqual(parting(one, other), found)

    def test_each_side(self):
        one = store_of(a=count_of(WHOLE), b=sum_of(FIRST), c=Least(FIRST))
        other = store_of(d=count_of(WHOLE), e=Least(WHOLE))
        self.assertParted(one, other, "left", "b")
        self.assertParted(other, one, "left", "e")
        other.drop("e")
        self.assertParted(other, one, "right", "b")

    def test_alike(self):
        self.assertIsNone(parting(Store(SPACE), Store(SPACE)))
        self.assertIsNone(parting(one=store_of(count_of(WHOLE)), other=store_of(count_of(WHOLE) * 2)))

    def test_drawn(self):
        for one, other in drawn_pairs(33, 120):
            left = [name for name in one.names() if not tells(other, one[name])]
            right = [name for name in other.names() if not tells(one, other[name])]
            if left:
                self.assertParted(one, other, "left", left[0])
            elif right:
                self.assertParted(one, other, "right", right[0])
            else:
                self.assertIsNone(parting(one, other))
                self.assertIs(alike(one, other), True)

    def test_other_space(self):
        for pair in ((Store(SPACE), Store(OTHER)), (store_of(count_of(WHOLE)), Store(OTHER))):
            for one, other in (pair, pair[::-1]):
                for function in (parting, alike):
                    with self.assertRaises(OtherSpace):
                        function(one, other)


class Needless(unittest.TestCase):
    def test_equal_parts(self):
        for part in (count_of(WHOLE), Least(WHOLE), Greatest(FIRST)):
            self.assertEqual(needless(store_of(b=part, a=part, c=sum_of(FIRST))), ["a", "b"])

    def test_parts_told_by_the_others(self):
        store = store_of(c=count_of(WHOLE), a=count_of(FIRST), b=count_of(REST))
        self.assertEqual(needless(store), ["a", "b", "c"])
        store = store_of(c=Least(WHOLE), a=Least(FIRST), b=Least(REST))
        self.assertEqual(needless(store), ["c"])
        self.assertEqual(needless(store_of(a=count_of(SPACE.empty()), b=Least(SPACE.empty()))), ["a", "b"])

    def test_none(self):
        self.assertEqual(needless(Store(SPACE)), [])
        self.assertEqual(needless(store=store_of(count_of(WHOLE), Least(WHOLE), Greatest(WHOLE))), [])

    def test_drawn(self):
        source = random.Random(34)
        for _ in range(100):
            store = drawn_store(source, 7)
            before = store.copy()
            wanted = []
            for name in store.names():
                rest = store_of(**{other: store[other] for other in store.names() if other != name})
                if tells(rest, store[name]):
                    wanted.append(name)
            names = needless(store)
            self.assertIs(type(names), list)
            self.assertEqual(names, wanted)
            self.assertEqual(store, before)

    def test_16_parts(self):
        store = store_of(*(count_of(FIRST) * number for number in range(1, 17)))
        self.assertEqual(needless(store), store.names())


class Facts(unittest.TestCase):
    def test_trimmed_parts(self):
        source = random.Random(35)
        for _ in range(120):
            store = drawn_store(source, 7)
            kept = store_of(**{name: store[name] for name in trimmed(store)})
            self.assertIs(alike(store, kept), True)
            self.assertEqual(needless(kept), [])
            self.assertEqual(trimmed(kept), kept.names())

    def test_joined_stores_tell_what_each_tells_and_no_more_than_they_must(self):
        source = random.Random(36)
        for one, other in drawn_pairs(37, 60):
            other = store_of(**{f"o{name}": other[name] for name in other.names()})
            both = joined(one, other)
            self.assertIs(one <= both and other <= both, True)
            for measure in drawn_measures(source):
                if tells(one, measure) or tells(other, measure):
                    self.assertIs(tells(both, measure), True)
            third = drawn_store(source, 7)
            self.assertIs(both <= third, one <= third and other <= third)

    def test_alike_stores_tell_the_same_measures(self):
        source = random.Random(38)
        many = 0
        for one, other in drawn_pairs(39, 150):
            if alike(one, other):
                many += 1
                for measure in drawn_measures(source):
                    self.assertIs(tells(one, measure), tells(other, measure))
        self.assertGreater(many, 20)


if __name__ == "__main__":
    unittest.main()
