"""The examples of the document, as written there."""

import unittest

from partstell.choosing import cheapest
from partstell.desk import Desk
from partstell.errors import BadText, NoSpace
from partstell.kept import merged
from partstell.leftopen import left
from partstell.linear import count_of, sum_of
from partstell.measures import Least, Variance, mean_of
from partstell.offers import Offer
from partstell.ratios import Ratio
from partstell.regions import Region
from partstell.showing import most_shown
from partstell.spaces import Space
from partstell.stores import Store
from partstell.tables import Table
from partstell.telling import check_twins, tells, trimmed, twins_of, way_of
from partstell.texts import measure_text, read_measure


class Examples(unittest.TestCase):
    def test_ratios(self):
        self.assertEqual((Ratio(3, -6) + 1).text(), "1/2")
        self.assertEqual(Ratio(7, 2) // -1, -4)
        self.assertEqual((Ratio(7, 2) % -1).text(), "-1/2")

    def test_a_member_that_stands_twice(self):
        with self.assertRaises(NoSpace) as held:
            Space([("a", ("x", "x"))])
        self.assertEqual((held.exception.place, held.exception.word), (0, "twice"))

    def test_groups(self):
        space = Space([("a", ("x", "y")), ("b", ("u", "v"))])
        groups = space.whole().groups(["b"])
        self.assertEqual(groups[1].cells, (("x", "v"), ("y", "v")))

    def test_mean_and_variance(self):
        space = Space([("a", ("x", "y"))])
        table = Table(space, [(("x",), 3, 3), (("y",), 4, 1)])
        mean = mean_of(space.whole())
        variance = Variance(space.whole())
        self.assertEqual((mean(table).text(), variance(table).text()), ("13/4", "3/16"))

    def test_a_way(self):
        space = Space([("a", ("x", "y"))])
        store = Store(space)
        store["total"] = sum_of(space.whole())
        store["first"] = sum_of(Region(space, [("x",)]))
        way = way_of(store, sum_of(Region(space, [("y",)])))
        self.assertEqual((way.used, way.answer({"total": 13, "first": 9}).text()), (("first", "total"), "4"))

    def test_twins(self):
        space = Space([("a", ("x", "y"))])
        store = Store(space)
        store["total"] = sum_of(space.whole())
        measure = count_of(space.whole())
        found = tells(store, measure), check_twins(store, measure, twins_of(store, measure))
        self.assertEqual(found, (False, True))

    def test_trimmed(self):
        space = Space([("a", ("x", "y"))])
        store = Store(space)
        store["a"] = Least(Region(space, [("x",)]))
        store["c"] = Least(space.whole())
        before = tells(store, Least(Region(space, [("y",)])))
        store["b"] = Least(Region(space, [("y",)]))
        self.assertEqual((before, trimmed(store)), (False, ["a", "b"]))

    def test_choices(self):
        space = Space([("a", ["x", "y"])])
        first = space.where("a", ["x"])
        second = space.where("a", ["y"])
        rows = [("n", count_of(space.whole()), 1), ("x", count_of(first), 5), ("y", count_of(second), 3)]
        offer = Offer(space, rows)
        self.assertEqual(cheapest(offer, [count_of(first)]), (4, ("n", "y")))
        self.assertEqual(cheapest(offer, [count_of(first)], hidden=[count_of(second)]), (5, ("x",)))
        self.assertEqual(most_shown(offer, [count_of(first)]), (3, ("y",)))

    def test_merged(self):
        space = Space([("a", ["x", "y"])])
        store = Store(space)
        store["low"] = Least(space.whole())
        self.assertEqual(merged(store, {"low": 3}, {"low": None}), {"low": 3})

    def test_left(self):
        space = Space([("a", ["x", "y"])])
        first = space.where("a", ["x"])
        store = Store(space)
        store["low"] = Least(space.whole())
        self.assertEqual(left(store, {"low": 2}, Least(first)), (2, None))

    def test_texts(self):
        space = Space([("a", ["x", "y"])])
        first = space.where("a", ["x"])
        measure = count_of(space.whole()) * Ratio(1, 2) - sum_of(first)
        self.assertEqual(measure_text(measure), "1/2 count [x,y] plus -1 sum [x]")
        with self.assertRaises(BadText) as held:
            read_measure(space, "least [x] plus")
        self.assertEqual(held.exception.place, 2)

    def test_a_desk(self):
        desk = Desk(Space([("a", ["x", "y"])]))
        self.assertEqual(desk.tell("part n 1 count [x,y]"), [])
        self.assertEqual(desk.tell("put x 3 2"), [])
        self.assertEqual(desk.tell("ask 2 count [x,y]"), ["told 4"])


if __name__ == "__main__":
    unittest.main()
