"""Promises [2] and [17]: stores."""

import unittest

from partstell.errors import Full, NoName, NoPart, NoSuch, OtherSpace
from partstell.linear import Linear, count_of, squares_of, sum_of
from partstell.measures import Greatest, Least, Spread, Variance, mean_of
from partstell.ratios import Ratio
from partstell.regions import Region
from partstell.spaces import Space
from partstell.stores import Store
from partstell.tables import Table

SPACE = Space([("a", ("x", "y", "z"))])
OTHER = Space([("a", ("x", "y", "w"))])
X, Y, Z = SPACE.cells
WHOLE = SPACE.whole()
PARTS = (count_of(WHOLE), Least(WHOLE), Greatest(Region(SPACE, [X])), sum_of(SPACE.empty()))
NO_NAMES = (
    "", "A", "1a", "a-b", "a b", "abcdefghi", "aB", " a", "a ", "\u00e9", "a\u00b2", "_a", None, 0, 1, True, b"a",
    ["a"], ("a",), {}, Ratio(1), SPACE, PARTS[0], Store, [[]], {"a": 1},
)
NO_PARTS = (
    None, 0, True, "count", b"", [], (), {}, SPACE, WHOLE, Table(SPACE), Ratio(1), Store(SPACE), Linear, Least, count_of,
    mean_of(WHOLE), Variance(WHOLE), Spread(WHOLE), mean_of(OTHER.whole()), Spread(OTHER.whole()),
)


def full_store():
    store = Store(SPACE)
    for number in range(16):
        store[f"n{number}"] = PARTS[number % 4]
    return store


class Putting(unittest.TestCase):
    def test_an_empty_store(self):
        for store in (Store(SPACE), Store(space=SPACE)):
            self.assertEqual(store.space, SPACE)
            self.assertEqual(len(store), 0)
            self.assertEqual(store.names(), [])

    def test_parts_of_each_kind(self):
        store = Store(SPACE)
        for number, part in enumerate(PARTS):
            store[f"p{number}"] = part
            self.assertEqual(len(store), number + 1)
            self.assertEqual(store[f"p{number}"], part)

    def test_names_of_1_and_8_characters(self):
        store = Store(SPACE)
        for name in ("a", "z", "a0", "abcdefgh", "a1234567", "zz"):
            store[name] = PARTS[0]
            self.assertEqual(store[name], PARTS[0])
        self.assertEqual(store.names(), ["a", "a0", "a1234567", "abcdefgh", "z", "zz"])

    def test_a_part_is_replaced(self):
        store = Store(SPACE)
        store["a"] = PARTS[0]
        store["a"] = PARTS[1]
        self.assertEqual(len(store), 1)
        self.assertEqual(store["a"], PARTS[1])

    def test_a_part_may_stand_under_several_names(self):
        store = Store(SPACE)
        store["a"] = store["b"] = PARTS[0]
        self.assertEqual(len(store), 2)

    def test_no_name(self):
        store = Store(SPACE)
        for odd in NO_NAMES:
            with self.assertRaises(NoName) as held:
                store[odd] = PARTS[0]
            self.assertIs(held.exception.name, odd)
            self.assertEqual(len(store), 0)

    def test_no_part(self):
        store = Store(SPACE)
        store["a"] = PARTS[0]
        for odd in NO_PARTS:
            for name in ("a", "b"):
                with self.assertRaises(NoPart):
                    store[name] = odd
        self.assertEqual(store.names(), ["a"])
        self.assertEqual(store["a"], PARTS[0])

    def test_other_space(self):
        store = Store(SPACE)
        for part in (count_of(OTHER.whole()), Least(OTHER.empty()), Greatest(OTHER.whole())):
            with self.assertRaises(OtherSpace):
                store["a"] = part
        self.assertEqual(len(store), 0)

    def test_an_equal_space_is_the_same_space(self):
        store = Store(SPACE)
        store["a"] = count_of(Space([["a", ["x", "y", "z"]]]).whole())
        self.assertEqual(store["a"], count_of(WHOLE))

    def test_16_parts_and_a_17th(self):
        store = full_store()
        self.assertEqual(len(store), 16)
        for name in ("n16", "a", "zzzzzzzz"):
            with self.assertRaises(Full) as held:
                store[name] = PARTS[0]
            self.assertEqual(held.exception.number, 17)
        self.assertEqual(store, full_store())

    def test_a_replaced_part_at_16(self):
        store = full_store()
        store["n3"] = PARTS[1]
        self.assertEqual(len(store), 16)
        self.assertEqual(store["n3"], PARTS[1])
        store.drop("n3")
        store["x"] = PARTS[1]
        self.assertEqual(len(store), 16)

    def test_the_first_error_that_is_due(self):
        store = full_store()
        for name, part, error in (
            ("", None, NoName), ("", count_of(OTHER.whole()), NoName), ("", PARTS[0], NoName),
            ("n1", mean_of(OTHER.whole()), NoPart), ("x", None, NoPart),
            ("x", count_of(OTHER.whole()), OtherSpace), ("n1", count_of(OTHER.whole()), OtherSpace),
            ("x", PARTS[0], Full),
        ):
            with self.assertRaises(error):
                store[name] = part
        self.assertEqual(store, full_store())


class Reading(unittest.TestCase):
    def test_no_such_name(self):
        store = full_store()
        for odd in (*NO_NAMES, "a", "n16", "n"):
            with self.assertRaises(NoSuch) as held:
                store[odd]
            self.assertIs(held.exception.name, odd)
            with self.assertRaises(NoSuch) as held:
                store.drop(odd)
            self.assertIs(held.exception.name, odd)
            self.assertIs(odd in store, False)
        self.assertEqual(store, full_store())

    def test_in(self):
        store = full_store()
        self.assertIs("n1" in store, True)
        self.assertIs("n1" not in store, False)
        self.assertIs("n16" in store, False)
        self.assertIs(PARTS[0] in store, False)

    def test_drop(self):
        store = full_store()
        self.assertIsNone(store.drop("n5"))
        self.assertEqual(len(store), 15)
        self.assertIs("n5" in store, False)
        with self.assertRaises(NoSuch):
            store.drop("n5")
        self.assertIsNone(store.drop(name="n6"))

    def test_names_ascend_and_are_new(self):
        store = Store(SPACE)
        for name in ("b", "a10", "a9", "zz", "a", "z"):
            store[name] = PARTS[0]
        names = store.names()
        self.assertIs(type(names), list)
        self.assertEqual(names, ["a", "a10", "a9", "b", "z", "zz"])
        names.clear()
        self.assertEqual(len(store.names()), 6)

    def test_a_store_is_not_iterated_over(self):
        with self.assertRaises(TypeError):
            list(full_store())

    def test_measures_do_not_change(self):
        part = count_of(WHOLE)
        store = Store(SPACE)
        store["a"] = part
        store["a"] = PARTS[1]
        store.drop("a")
        self.assertEqual(part, count_of(WHOLE))


class Copies(unittest.TestCase):
    def test_copies_go_their_own_ways(self):
        store = full_store()
        other = store.copy()
        self.assertIs(type(other), Store)
        self.assertIsNot(other, store)
        self.assertEqual(other, store)
        self.assertEqual(other.space, SPACE)
        other.drop("n0")
        store["n1"] = PARTS[2]
        self.assertIs("n0" in store, True)
        self.assertEqual(other["n1"], PARTS[1])
        self.assertEqual(len(other), 15)
        self.assertEqual(len(store), 16)

    def test_the_copy_of_an_empty_store(self):
        store = Store(SPACE)
        other = store.copy()
        other["a"] = PARTS[0]
        self.assertEqual(len(store), 0)
        self.assertEqual(other.names(), ["a"])


class Equality(unittest.TestCase):
    def test_the_order_of_putting_means_nothing(self):
        one, other = Store(SPACE), Store(Space([["a", ["x", "y", "z"]]]))
        one["a"], one["b"] = PARTS[0], PARTS[1]
        other["b"], other["a"] = Least(SPACE.whole()), count_of(SPACE.whole())
        self.assertIs(one == other, True)
        self.assertIs(one != other, False)

    def test_unequal(self):
        one = Store(SPACE)
        one["a"] = PARTS[0]
        others = [Store(SPACE), Store(OTHER), None, 1, True, {"a": PARTS[0]}, ["a"], SPACE, PARTS[0], Table(SPACE), ""]
        for name, part in (("b", PARTS[0]), ("a", PARTS[1]), ("a", PARTS[0] * 2)):
            other = Store(SPACE)
            other[name] = part
            others.append(other)
        more = one.copy()
        more["b"] = PARTS[0]
        for other in (*others, more):
            self.assertIs(one == other, False)
            self.assertIs(other == one, False)
            self.assertIs(one != other, True)

    def test_empty_stores(self):
        self.assertIs(Store(SPACE) == Store(SPACE), True)
        self.assertIs(Store(SPACE) == Store(OTHER), False)

    def test_parts_are_compared_not_what_they_tell(self):
        one, other = Store(SPACE), Store(SPACE)
        one["a"] = count_of(WHOLE)
        other["a"] = count_of(WHOLE) * 2
        self.assertIs(one == other, False)
        other["a"] = Least(WHOLE)
        self.assertIs(one == other, False)


class Values(unittest.TestCase):
    def test_values_of_each_kind(self):
        store = Store(SPACE)
        store["c"] = count_of(WHOLE)
        store["s"] = sum_of(Region(SPACE, [X])) * Ratio(1, 2)
        store["q"] = squares_of(WHOLE)
        store["l"] = Least(WHOLE)
        store["g"] = Greatest(Region(SPACE, [Z]))
        table = Table(SPACE, [(X, 3, 1), (Y, -4, 2)])
        values = store.part_values(table)
        self.assertEqual(values, {"c": 3, "s": Ratio(3, 2), "q": 41, "l": -4, "g": None})
        self.assertIs(type(values), dict)
        self.assertIs(type(values["c"]), Ratio)
        self.assertIs(type(values["l"]), int)
        self.assertEqual(store.part_values(table=Table(SPACE)), {"c": 0, "s": 0, "q": 0, "l": None, "g": None})

    def test_the_dict_is_new(self):
        store = full_store()
        values = store.part_values(Table(SPACE))
        values.clear()
        self.assertEqual(len(store.part_values(Table(SPACE))), 16)
        self.assertEqual(len(store), 16)

    def test_without_parts(self):
        self.assertEqual(Store(SPACE).part_values(Table(SPACE, [(X, 1, 1)])), {})

    def test_other_space(self):
        for store in (Store(SPACE), full_store()):
            with self.assertRaises(OtherSpace):
                store.part_values(Table(OTHER))


if __name__ == "__main__":
    unittest.main()
