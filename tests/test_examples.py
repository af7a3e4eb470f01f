"""The examples of the document, as written there."""

import unittest

from partstell.errors import NoSpace
from partstell.measures import Variance, mean_of
from partstell.ratios import Ratio
from partstell.spaces import Space
from partstell.tables import Table


class Examples(unittest.TestCase):
    def test_ratios(self):
        self.assertEqual((Ratio(3, -6) + 1).text(), "1/2")
        self.assertEqual(Ratio(7, 2) // -1, -4)
        self.assertEqual((Ratio(7, 2) % -1).text(), "-1/2")

    def test_a_member_that_stands_twice(self):
        with self.assertRaises(NoSpace) as held:
            Space([("a", ("x", "x"))])
        self.assertEqual((held.exception.place, held.exception.word), (0, "twice"))

    def test_groups(self):
        space = Space([("a", ("x", "y")), ("b", ("u", "v"))])
        groups = space.whole().groups(["b"])
        self.assertEqual(groups[1].cells, (("x", "v"), ("y", "v")))

    def test_mean_and_variance(self):
        space = Space([("a", ("x", "y"))])
        table = Table(space, [(("x",), 3, 3), (("y",), 4, 1)])
        mean = mean_of(space.whole())
        variance = Variance(space.whole())
        self.assertEqual((mean(table).text(), variance(table).text()), ("13/4", "3/16"))


if __name__ == "__main__":
    unittest.main()
