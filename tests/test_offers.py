"""Promise [34]: offers."""

import itertools
import unittest

from partstell.errors import NoOffer, NoSuch
from partstell.linear import Linear, count_of, squares_of, sum_of
from partstell.measures import Greatest, Least, Spread, Variance, mean_of
from partstell.offers import Offer
from partstell.ratios import Ratio
from partstell.regions import Region
from partstell.spaces import Space
from partstell.stores import Store
from partstell.tables import Table
from partstell.telling import tells

SPACE = Space([("a", ("x", "y"))])
OTHER = Space([("a", ("x", "q"))])
WHOLE = SPACE.whole()
FIRST = Region(SPACE, [("x",)])
PART = count_of(WHOLE)
MOST = 10 ** 9
NO_SEQUENCES = (None, 0, True, "abc", b"abc", {}, {0: 1}, SPACE, Ratio(3), Store(SPACE), range(3), Offer)
NO_NAMES = ("", "A", "1a", "a-b", "a b", "abcdefghi", None, 0, True, b"a", ["a"], ("a",), {}, Ratio(1), SPACE, PART)
NO_PARTS = (
    None, 0, True, "count", b"", [], (), {}, SPACE, WHOLE, Table(SPACE), Ratio(1), Store(SPACE), Linear, count_of,
    mean_of(WHOLE), Variance(WHOLE), Spread(WHOLE), Spread(OTHER.whole()),
)
NO_COSTS = (-1, MOST + 1, 10 ** 40, True, False, None, "1", [1], (), {}, Ratio(1), SPACE)


def rows_of(many):
    return [(f"n{number}", PART, number) for number in range(many)]


class Making(unittest.TestCase):
    def assertRefused(self, rows, place, word):
        with self.assertRaises(NoOffer) as held:
            Offer(SPACE, rows)
        self.assertEqual((held.exception.place, held.exception.word), (place, word))

    def test_fields(self):
        rows = [("b", PART, 3), ["a10", Least(FIRST), 0], ("a9", Greatest(WHOLE), MOST), ("a", sum_of(WHOLE), 1)]
        for offer in (Offer(SPACE, rows), Offer(rows=tuple(rows), space=SPACE)):
            self.assertEqual(offer.space, SPACE)
            self.assertEqual(offer.rows, (
                ("a", sum_of(WHOLE), 1), ("a10", Least(FIRST), 0), ("a9", Greatest(WHOLE), MOST), ("b", PART, 3),
            ))
            self.assertIs(type(offer.rows), tuple)
            for row in offer.rows:
                self.assertIs(type(row), tuple)

    def test_number_of_rows(self):
        for many in (1, 2, 9, 10):
            self.assertEqual(len(Offer(SPACE, rows_of(many)).rows), many)
        for many in (0, 11, 12, 100):
            self.assertRefused(rows_of(many), -1, "rows")
            self.assertRefused((None,) * many if many else (), -1, "rows")

    def test_no_sequence_of_rows(self):
        for odd in NO_SEQUENCES:
            self.assertRefused(odd, -1, "rows")

    def test_no_row(self):
        for odd in (*NO_SEQUENCES, (), ("a", PART), ["a"], ("a", PART, 1, 1)):
            self.assertRefused([odd], 0, "row")
            self.assertRefused([("a", PART, 1), ("b", PART, 1), odd], 2, "row")

    def test_no_name(self):
        for odd in NO_NAMES:
            self.assertRefused([(odd, PART, 1)], 0, "name")
            self.assertRefused([("a", PART, 1), [odd, PART, 1]], 1, "name")

    def test_twice(self):
        self.assertRefused([("a", PART, 1), ("a", PART, 1)], 1, "twice")
        self.assertRefused([("a", PART, 1), ("b", PART, 1), ("c", PART, 1), ("b", Least(WHOLE), 2)], 3, "twice")

    def test_no_part(self):
        for odd in NO_PARTS:
            self.assertRefused([("a", odd, 1)], 0, "part")
            self.assertRefused([("a", PART, 1), ("b", odd, 1)], 1, "part")

    def test_other_space(self):
        for odd in (count_of(OTHER.whole()), Least(OTHER.whole()), Greatest(OTHER.empty())):
            self.assertRefused([("a", odd, 1)], 0, "space")
            self.assertRefused([("a", PART, 1), ("b", odd, 1)], 1, "space")

    def test_no_cost(self):
        for odd in NO_COSTS:
            self.assertRefused([("a", PART, odd)], 0, "cost")
            self.assertRefused([("a", PART, 1), ("b", PART, odd)], 1, "cost")

    def test_the_first_word_that_is_due(self):
        first, other = ("a", PART, 1), count_of(OTHER.whole())
        self.assertRefused([first, (None, None, None)], 1, "name")
        self.assertRefused([first, ("a", None, None)], 1, "twice")
        self.assertRefused([first, ("b", mean_of(OTHER.whole()), None)], 1, "part")
        self.assertRefused([first, ("b", other, -1)], 1, "space")
        self.assertRefused([first, ("b", PART, -1)], 1, "cost")

    def test_the_first_row_that_is_not_as_told(self):
        self.assertRefused([("a", PART, 1), ("b", PART, -1), None, ("a", PART, 1)], 1, "cost")
        self.assertRefused([("b", PART, 1), ("c", PART, 1), ("b", PART, 1), None], 2, "twice")

    def test_the_list_may_change_afterwards(self):
        row = ["a", PART, 1]
        rows = [("b", PART, 2), row]
        offer = Offer(SPACE, rows)
        self.assertEqual(rows, [("b", PART, 2), ["a", PART, 1]])
        row[2] = 7
        rows.clear()
        self.assertEqual(offer.rows, (("a", PART, 1), ("b", PART, 2)))


class Choices(unittest.TestCase):
    def setUp(self):
        self.parts = {"a": PART, "b": Least(WHOLE), "c": sum_of(FIRST), "d": squares_of(WHOLE)}
        costs = {"a": 1, "b": MOST, "c": 0, "d": 50}
        self.costs = costs
        self.offer = Offer(SPACE, [(name, part, costs[name]) for name, part in self.parts.items()])

    def test_each_choice(self):
        for many in range(5):
            for names in itertools.permutations("abcd", many):
                for given in (names, list(names), [*names, *names]):
                    store = self.offer.store_of(given)
                    self.assertIs(type(store), Store)
                    self.assertEqual(store.space, SPACE)
                    self.assertEqual(store.names(), sorted(names))
                    for name in names:
                        self.assertEqual(store[name], self.parts[name])
                    self.assertEqual(self.offer.total(given), sum(self.costs[name] for name in names))

    def test_by_keywords(self):
        self.assertEqual(self.offer.total(names=["a", "d"]), 51)
        self.assertEqual(self.offer.store_of(names=("a",)).names(), ["a"])

    def test_a_new_store(self):
        store = self.offer.store_of(["a"])
        store.drop("a")
        self.assertEqual(self.offer.store_of(["a"]).names(), ["a"])

    def test_the_names_stay(self):
        names = ["c", "a", "c"]
        self.offer.store_of(names)
        self.offer.total(names)
        self.assertEqual(names, ["c", "a", "c"])

    def test_no_such_name(self):
        for odd in (*NO_NAMES, "e", "ab"):
            for names in ([odd], ["a", odd], ("b", "a", "b", odd, "none"), [odd, "none"]):
                for function in (self.offer.store_of, self.offer.total):
                    with self.assertRaises(NoSuch) as held:
                        function(names)
                    self.assertIs(held.exception.name, odd)

    def test_what_a_choice_tells_each_larger_choice_tells(self):
        measures = (count_of(WHOLE), Least(WHOLE), Variance(WHOLE), sum_of(FIRST) - PART, mean_of(FIRST))
        choices = [names for many in range(5) for names in itertools.combinations("abcd", many)]
        for one, other in itertools.product(choices, repeat=2):
            if set(one) <= set(other):
                for measure in measures:
                    if tells(self.offer.store_of(one), measure):
                        self.assertIs(tells(self.offer.store_of(other), measure), True)


if __name__ == "__main__":
    unittest.main()
