"""Promise [38]: the most parts that can be shown, and the evidence for them."""

import random
import unittest

from drawn import EXTREMES, GRID, LARGE, LINE, MARKS, OTHER, SMALL, drawn_marks
from offering import Judging, drawn_measures, drawn_offer, offer_of, searched, shown_key
from partstell.choosing import Evidence
from partstell.errors import NoAsked, OtherSpace
from partstell.judging import check_most_shown
from partstell.linear import count_of, squares_of, sum_of
from partstell.measures import Greatest, Least, Spread, Variance, mean_of
from partstell.offers import Offer
from partstell.showing import most_shown, show_evidence
from partstell.spaces import Space
from test_choosing import (
    ALWAYS_TOLD, EMPTY, N, NO_MEASURES, NO_SEQUENCES, OFFER, WHOLE, X, Y, power_measure, power_offer,
)


class Showing(Judging, unittest.TestCase):
    def assertShown(self, offer, hidden):
        """Compare the answer with a search, and check the evidence for it."""
        wanted, ahead = searched(offer, (), hidden, shown_key(offer))
        answer = most_shown(offer, hidden)
        self.assertEqual(answer, wanted)
        if answer is not None:
            self.assertEqual([type(each) for each in (answer, *answer)], [tuple, int, tuple])
        found = show_evidence(offer, hidden)
        self.assertEqual(found.lacks, ())
        self.assertEvidence(offer, (), hidden, answer, ahead, found)
        self.assertIs(check_most_shown(offer, hidden, answer, found), True)
        return answer

    def test_drawn(self):
        source = random.Random(381)
        sizes = {}
        for _ in range(150):
            offer = drawn_offer(source, source.choice((SMALL, LINE, GRID)))
            answer = self.assertShown(offer, drawn_measures(source, offer, 1, source.choice((1, 2, 6))))
            size = None if answer is None else "some" if 0 < len(answer[1]) < len(offer.rows) else len(answer[1]) > 0
            sizes[size] = sizes.get(size, 0) + 1
        for size in (None, False, "some", True):
            self.assertGreater(sizes.get(size, 0), 2, sizes)

    def test_10_rows(self):
        source = random.Random(382)
        for space in (SMALL, LINE, LARGE):
            parts = [drawn_marks(source, space) for _ in range(7)]
            parts += [count_of(space.whole()), sum_of(space.whole()), squares_of(space.whole())]
            offer = Offer(space, [(f"n{place}", part, source.randint(0, 3)) for place, part in enumerate(parts)])
            self.assertShown(offer, [Variance(space.whole()), mean_of(space.where("a", ["x"]))])

    def test_the_example_of_the_document(self):
        self.assertEqual(self.assertShown(OFFER, [X]), (3, ("y",)))

    def test_all_pairs_of_the_example(self):
        measures = (N, X, Y, X - Y, N * 0, mean_of(WHOLE), Least(WHOLE))
        for one in measures:
            for other in measures:
                self.assertShown(OFFER, [one, other])

    def test_1_row(self):
        for part in (N, Least(WHOLE), Greatest(WHOLE)):
            offer = offer_of(SMALL, ("p", part, 7))
            self.assertEqual(self.assertShown(offer, [part]), (0, ()))
            self.assertEqual(self.assertShown(offer, [sum_of(WHOLE)]), (7, ("p",)))

    def test_all_can_be_shown(self):
        self.assertEqual(self.assertShown(OFFER, [sum_of(WHOLE), Spread(WHOLE)]), (9, ("n", "x", "y")))

    def test_a_greater_total_counts_more_than_more_names(self):
        offer = offer_of(SMALL, ("a", N, 5), ("b", X, 2), ("c", X * 2, 2))
        self.assertEqual(self.assertShown(offer, [Y]), (5, ("a",)))

    def test_equal_totals_then_more_names(self):
        offer = offer_of(SMALL, ("a", N, 4), ("b", X, 2), ("c", X * 2, 2))
        self.assertEqual(self.assertShown(offer, [Y]), (4, ("b", "c")))
        offer = offer_of(SMALL, ("a", N, 0), ("b", Least(WHOLE), 0), ("c", X, 0))
        self.assertEqual(self.assertShown(offer, [sum_of(WHOLE)]), (0, ("a", "b", "c")))
        self.assertEqual(self.assertShown(offer, [Y]), (0, ("a", "b")))

    def test_equal_totals_and_numbers_then_the_lesser_names(self):
        offer = offer_of(SMALL, ("a9", N, 3), ("a10", X, 3), ("b", Y, 3))
        self.assertEqual(self.assertShown(offer, [N, X]), (3, ("b",)))
        self.assertEqual(self.assertShown(offer, [N - X * 7, X + Y * 9, mean_of(WHOLE)]), (3, ("a10",)))

    def test_6_hidden_measures(self):
        offer = Offer(SMALL, [(f"n{place}", made(WHOLE), place) for place, made in enumerate((*MARKS, *EXTREMES))])
        hidden = [mean_of(WHOLE), Variance(WHOLE), Spread(WHOLE), X, Least(SMALL.where("a", ["x"])), Y]
        self.assertEqual(self.assertShown(offer, hidden), (7, ("n1", "n2", "n4")))
        self.assertEqual(self.assertShown(offer, [N] * 6), (10, ("n1", "n2", "n3", "n4")))

    def test_what_every_store_tells(self):
        for measure in ALWAYS_TOLD:
            self.assertIsNone(self.assertShown(OFFER, [measure]))
            self.assertIsNone(self.assertShown(OFFER, [X, measure]))

    def test_parts_of_empty_regions(self):
        offer = offer_of(SMALL, ("a", Least(EMPTY), 0), ("b", N * 0, 0), ("c", N, 0))
        self.assertEqual(self.assertShown(offer, [N]), (0, ("a", "b")))

    def test_as_many_triples_as_there_can_be(self):
        for needed, rows, many in ((5, 10, 252), (4, 10, 210), (4, 9, 126), (6, 10, 210)):
            offer, measure = power_offer(needed, rows), power_measure(0, needed)
            answer = most_shown(offer, [measure])
            self.assertEqual(len(answer[1]), needed - 1)
            found = show_evidence(offer, [measure])
            self.assertEqual((found.lacks, len(found.leaks), len(found.hides)), ((), many, 1))
            self.assertIs(check_most_shown(offer, [measure], answer, found), True)

    def test_a_list_and_a_tuple_are_equal_arguments(self):
        hidden = [X, Spread(WHOLE)]
        self.assertEqual(most_shown(OFFER, tuple(hidden)), most_shown(OFFER, hidden))
        self.assertSameEvidence(show_evidence(OFFER, tuple(hidden)), show_evidence(OFFER, hidden))
        self.assertEqual(hidden, [X, Spread(WHOLE)])

    def test_an_equal_space(self):
        space = Space([["a", ["x", "y"]]])
        self.assertEqual(most_shown(OFFER, [count_of(space.where("a", ["x"]))]), (3, ("y",)))

    def test_by_keywords(self):
        found = show_evidence(hidden=[X], offer=OFFER)
        self.assertEqual(most_shown(hidden=[X], offer=OFFER), (3, ("y",)))
        self.assertIs(check_most_shown(found=found, answer=(3, ("y",)), hidden=[X], offer=OFFER), True)


class Errors(unittest.TestCase):
    def calls(self, hidden):
        yield lambda: most_shown(OFFER, hidden)
        yield lambda: show_evidence(OFFER, hidden)
        yield lambda: check_most_shown(OFFER, hidden, None, None)
        yield lambda: check_most_shown(OFFER, hidden, (3, ("y",)), Evidence((), (), ()))

    def assertNoAsked(self, place, hidden):
        for call in self.calls(hidden):
            with self.assertRaises(NoAsked) as held:
                call()
            self.assertEqual((held.exception.place, held.exception.word), (place, "hidden"))

    def assertOtherSpace(self, hidden):
        for call in self.calls(hidden):
            with self.assertRaises(OtherSpace):
                call()

    def test_no_sequence(self):
        for odd in NO_SEQUENCES:
            self.assertNoAsked(-1, odd)

    def test_numbers_of_measures(self):
        for many in (0, 7, 8, 50):
            self.assertNoAsked(-1, [N] * many)
            self.assertNoAsked(-1, (None,) * many)
        for many in range(1, 7):
            self.assertEqual(most_shown(OFFER, (X,) * many), (3, ("y",)))

    def test_no_measure(self):
        for odd in NO_MEASURES:
            self.assertNoAsked(0, [odd])
            self.assertNoAsked(2, (N, Least(WHOLE), odd, None))

    def test_other_space(self):
        for made in (*MARKS, *EXTREMES, Variance, Spread, mean_of):
            self.assertOtherSpace([made(OTHER.whole())])
            self.assertOtherSpace([N, made(OTHER.whole())])

    def test_the_first_error_that_is_due(self):
        far = count_of(OTHER.whole())
        self.assertNoAsked(-1, [far] * 7)
        self.assertNoAsked(1, [far, 5])


if __name__ == "__main__":
    unittest.main()
