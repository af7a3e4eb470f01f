"""Promises [2], [35] and [36]: the cheapest choice, and the evidence for it."""

import itertools
import random
import unittest

from drawn import EXTREMES, GRID, LARGE, LINE, MARKS, OTHER, SMALL, drawn_marks
from offering import Judging, cheap_key, drawn_measures, drawn_offer, drawn_told, offer_of, searched
from partstell.choosing import Evidence, cheapest, evidence
from partstell.errors import NoAsked, OtherSpace
from partstell.judging import check_cheapest
from partstell.linear import Linear, count_of, squares_of, sum_of
from partstell.measures import Greatest, Least, Spread, Variance, mean_of
from partstell.offers import Offer
from partstell.ratios import Ratio
from partstell.regions import Region
from partstell.spaces import Space
from partstell.stores import Store
from partstell.tables import Table
from partstell.ways import Twins

WHOLE = SMALL.whole()
FIRST = SMALL.where("a", ["x"])
SECOND = SMALL.where("a", ["y"])
EMPTY = SMALL.empty()
N, X, Y = count_of(WHOLE), count_of(FIRST), count_of(SECOND)
OFFER = offer_of(SMALL, ("n", N, 1), ("x", X, 5), ("y", Y, 3))
NO_SEQUENCES = (None, 0, True, "abc", b"abc", {}, {0: N}, SMALL, N, Ratio(3), Store(SMALL), OFFER, Linear)
NO_MEASURES = (
    None, 0, 1, True, "count", b"", [], (), [N], (N,), {}, {0: N}, SMALL, WHOLE, Table(SMALL), Ratio(1), Store(SMALL),
    OFFER, Twins(1, 2), Evidence((), (), ()), Linear, count_of, OtherSpace(),
)
ALWAYS_TOLD = (N * 0, sum_of(EMPTY), Least(EMPTY), Greatest(EMPTY), Variance(EMPTY), Spread(EMPTY))


def power_measure(number, many):
    """Give a measure such that any so many of these, with unlike numbers, tell each further one."""
    numbers = [number ** place if place < many else 0 for place in range(24)]
    return Linear(LARGE, numbers, [0] * 24, [0] * 24)


def power_offer(many, rows=10):
    return Offer(LARGE, [(f"n{number}", power_measure(number + 1, many), number % 3) for number in range(rows)])


class Choosing(Judging, unittest.TestCase):
    def assertAnswer(self, offer, asked, hidden=()):
        """Compare the answer with a search, and check the evidence for it."""
        wanted, ahead = searched(offer, asked, hidden, cheap_key(offer))
        answer = cheapest(offer, asked, hidden=hidden)
        self.assertEqual(answer, wanted)
        if answer is not None:
            self.assertEqual([type(each) for each in (answer, *answer)], [tuple, int, tuple])
        found = evidence(offer, asked, hidden=hidden)
        self.assertEvidence(offer, asked, hidden, answer, ahead, found)
        self.assertIs(check_cheapest(offer, asked, answer, found, hidden=hidden), True)
        return answer

    def test_drawn(self):
        source = random.Random(351)
        answers = {}
        for _ in range(170):
            offer = drawn_offer(source, source.choice((SMALL, LINE, GRID)))
            asked = drawn_told(source, offer, source.choice((1, 2, 6)))
            hidden = drawn_measures(source, offer, 0, source.choice((0, 1, 2, 6)))
            answer = self.assertAnswer(offer, asked, hidden)
            key = None if answer is None else min(len(answer[1]), 2), len(hidden) > 0
            answers[key] = answers.get(key, 0) + 1
        for size in (None, 0, 1, 2):
            for hiding in (False, True):
                self.assertGreater(answers.get((size, hiding), 0), 2, answers)

    def test_drawn_marks(self):
        source = random.Random(352)
        for _ in range(25):
            space = source.choice((SMALL, LINE))
            offer = drawn_offer(source, space, 7, drawn_marks)
            store = offer.store_of([name for name, part, cost in offer.rows])
            parts = [store[name] for name in store.names()]
            asked = [source.choice(parts)] + drawn_measures(source, offer, 0, 1)
            hidden = [made(space.whole()) for made in (Variance, Spread, mean_of)] + drawn_measures(source, offer, 0, 2)
            self.assertAnswer(offer, asked, hidden[:source.randint(0, 5)])

    def test_10_rows(self):
        source = random.Random(353)
        for space in (SMALL, LINE, LARGE):
            parts = [drawn_marks(source, space) for _ in range(7)]
            parts += [count_of(space.whole()), sum_of(space.whole()), squares_of(space.whole())]
            offer = Offer(space, [(f"n{place}", part, source.randint(0, 3)) for place, part in enumerate(parts)])
            self.assertAnswer(offer, [Variance(space.whole()), parts[0]], [parts[1]])

    def test_the_examples_of_the_document(self):
        self.assertEqual(self.assertAnswer(OFFER, [X]), (4, ("n", "y")))
        self.assertEqual(self.assertAnswer(OFFER, [X], [Y]), (5, ("x",)))

    def test_all_choices_of_the_example(self):
        measures = (N, X, Y, X - Y, X * 7, N * 0, mean_of(WHOLE), Least(WHOLE))
        for asked in measures:
            self.assertAnswer(OFFER, [asked])
            for hidden in measures:
                self.assertAnswer(OFFER, [asked], [hidden])

    def test_1_row(self):
        for part in (N, Least(WHOLE), Greatest(FIRST)):
            offer = offer_of(SMALL, ("p", part, 7))
            self.assertEqual(self.assertAnswer(offer, [part]), (7, ("p",)))
            self.assertEqual(self.assertAnswer(offer, [N * 0], [part]), (0, ()))
            self.assertIsNone(self.assertAnswer(offer, [part], [part]))
            self.assertIsNone(self.assertAnswer(offer, [sum_of(WHOLE)]))

    def test_equal_totals_then_fewer_names(self):
        offer = offer_of(SMALL, ("a", X, 2), ("b", Y, 2), ("c", N, 4), ("d", N, 5))
        self.assertEqual(self.assertAnswer(offer, [N]), (4, ("c",)))
        offer = offer_of(SMALL, ("a", X, 0), ("b", Y, 0), ("c", N, 0))
        self.assertEqual(self.assertAnswer(offer, [N]), (0, ("c",)))
        self.assertEqual(self.assertAnswer(offer, [N, X]), (0, ("a", "b")))

    def test_a_lesser_total_counts_more_than_fewer_names(self):
        offer = offer_of(SMALL, ("a", X, 1), ("b", Y, 1), ("c", N, 3))
        self.assertEqual(self.assertAnswer(offer, [N]), (2, ("a", "b")))

    def test_equal_totals_and_numbers_then_the_lesser_names(self):
        offer = offer_of(SMALL, ("a9", N, 3), ("a10", N * 2, 3), ("b", -N, 3))
        self.assertEqual(self.assertAnswer(offer, [N]), (3, ("a10",)))
        self.assertEqual(self.assertAnswer(offer, [N, N * 5], [X]), (3, ("a10",)))
        offer = offer_of(SMALL, ("a", N, 2), ("b", X, 1), ("c", X, 1), ("d", Y, 2))
        self.assertEqual(self.assertAnswer(offer, [X, Y]), (3, ("a", "b")))

    def test_costs_of_0(self):
        offer = offer_of(SMALL, ("a", N, 0), ("b", X, 0), ("c", Least(WHOLE), 0))
        self.assertEqual(self.assertAnswer(offer, [Y]), (0, ("a", "b")))
        self.assertEqual(self.assertAnswer(offer, [N * 0]), (0, ()))
        self.assertEqual(self.assertAnswer(offer, [Least(WHOLE)], [N]), (0, ("c",)))

    def test_costs_of_10_to_the_9(self):
        offer = Offer(SMALL, [(f"n{place}", part, 10 ** 9) for place, part in enumerate((X, Y, sum_of(FIRST)))])
        self.assertEqual(self.assertAnswer(offer, [mean_of(FIRST), N]), (3 * 10 ** 9, ("n0", "n1", "n2")))

    def test_6_asked_and_6_hidden_measures(self):
        offer = offer_of(
            SMALL, ("n", N, 1), ("s", sum_of(WHOLE), 1), ("q", squares_of(WHOLE), 1), ("l", Least(WHOLE), 1),
            ("g", Greatest(WHOLE), 1), ("x", X, 1),
        )
        asked = [N, mean_of(WHOLE), Variance(WHOLE), Least(WHOLE), Greatest(WHOLE), Spread(WHOLE)]
        hidden = [X, Y, mean_of(FIRST), Variance(FIRST), Least(FIRST), Spread(FIRST)]
        self.assertEqual(self.assertAnswer(offer, asked, hidden), (5, ("g", "l", "n", "q", "s")))
        self.assertIsNone(self.assertAnswer(offer, [*asked[:5], X], hidden))
        self.assertEqual(self.assertAnswer(offer, [X] * 6, [N] * 6), (1, ("x",)))

    def test_no_good_choice(self):
        self.assertIsNone(self.assertAnswer(OFFER, [X, Y], [N]))
        self.assertIsNone(self.assertAnswer(OFFER, [sum_of(WHOLE)]))
        self.assertIsNone(self.assertAnswer(OFFER, [Least(WHOLE)], [Least(WHOLE)]))

    def test_what_every_store_tells(self):
        for measure in ALWAYS_TOLD:
            self.assertEqual(self.assertAnswer(OFFER, [measure]), (0, ()))
            self.assertEqual(self.assertAnswer(OFFER, [measure] * 6, [N] * 6), (0, ()))
            self.assertIsNone(self.assertAnswer(OFFER, [X], [measure]))
            self.assertIsNone(self.assertAnswer(OFFER, [measure], [Y, measure]))
            self.assertEqual(self.assertAnswer(OFFER, [measure, X]), (4, ("n", "y")))

    def test_the_same_measure_asked_and_hidden(self):
        for measure in (N, X, N * 0, Least(WHOLE), mean_of(WHOLE), sum_of(WHOLE)):
            self.assertIsNone(self.assertAnswer(OFFER, [measure], [measure]))

    def test_parts_of_empty_regions(self):
        parts = [Least(EMPTY), Greatest(EMPTY), N * 0]
        offer = Offer(SMALL, [(f"n{place}", part, 0) for place, part in enumerate(parts)])
        self.assertEqual(self.assertAnswer(offer, [Spread(EMPTY)], [N, Least(WHOLE)]), (0, ()))
        self.assertIsNone(self.assertAnswer(offer, [Least(WHOLE)]))

    def test_unions(self):
        cells = [Region(LINE, [cell]) for cell in LINE.cells]
        for kind in EXTREMES:
            offer = Offer(LINE, [(f"n{place}", kind(cell), place) for place, cell in enumerate(cells)] + [
                ("u", kind(cells[1] | cells[2]), 1), ("v", kind(cells[2] | cells[3]), 2), ("w", kind(LINE.whole()), 9),
            ])
            self.assertEqual(self.assertAnswer(offer, [kind(LINE.whole())]), (3, ("n0", "n1", "v")))
            self.assertEqual(self.assertAnswer(offer, [kind(LINE.whole())], [kind(cells[0])]), (9, ("w",)))
            self.assertEqual(self.assertAnswer(offer, [kind(~cells[0])], [kind(cells[1] | cells[2])]), (3, ("n1", "v")))

    def test_as_many_triples_as_there_can_be(self):
        for needed, rows, many in ((5, 9, 126), (5, 10, 210), (4, 10, 120), (4, 9, 84), (6, 10, 252)):
            offer, measure = power_offer(needed, rows), power_measure(0, needed)
            answer = cheapest(offer, [measure])
            self.assertEqual(len(answer[1]), needed)
            found = evidence(offer, [measure])
            self.assertEqual((len(found.lacks), found.leaks, found.hides), (many, (), ()))
            self.assertTriples(found.lacks)
            self.assertIs(check_cheapest(offer, [measure], answer, found), True)
        for needed, many in ((5, 252), (4, 210)):
            offer, measure = power_offer(needed), power_measure(0, needed)
            untold = [sum_of(LARGE.whole())]
            self.assertIsNone(cheapest(offer, untold, hidden=[measure]))
            found = evidence(offer, [offer.rows[0][1]], hidden=[measure])
            self.assertEqual(len(found.leaks), many)
            answer = cheapest(offer, [offer.rows[0][1]], hidden=[measure])
            self.assertEqual(answer, (0, ("n0",)))
            self.assertIs(check_cheapest(offer, [offer.rows[0][1]], answer, found, hidden=[measure]), True)

    def test_252_leaks_without_an_answer(self):
        offer, measure = power_offer(5), power_measure(0, 5)
        asked = [power_measure(20, 5)]
        self.assertIsNone(cheapest(offer, asked, hidden=[measure]))
        found = evidence(offer, asked, hidden=[measure])
        self.assertLessEqual(len(found.lacks), 252)
        self.assertLessEqual(len(found.leaks), 252)
        self.assertIs(check_cheapest(offer, asked, None, found, hidden=[measure]), True)

    def test_fractions_and_huge_factors(self):
        huge = 10 ** 40 + 9
        one = Linear(SMALL, [huge, Ratio(1, 3)], [0, 1], [Ratio(2, huge), 0])
        other = Linear(SMALL, [1, huge], [Ratio(1, 7), 0], [0, 0])
        offer = offer_of(SMALL, ("a", one, 1), ("b", other, 1), ("c", one + other * Ratio(1, huge), 1))
        self.assertEqual(self.assertAnswer(offer, [other]), (1, ("b",)))
        self.assertEqual(self.assertAnswer(offer, [other * 3], [other + one]), (1, ("b",)))
        self.assertEqual(self.assertAnswer(offer, [one.over(7) - other]), (2, ("a", "b")))

    def test_a_list_and_a_tuple_are_equal_arguments(self):
        hidden = [Y, Least(WHOLE)]
        for asked in ([X], (X,)):
            for given in (hidden, tuple(hidden)):
                self.assertEqual(cheapest(OFFER, asked, hidden=given), (5, ("x",)))
                self.assertSameEvidence(evidence(OFFER, asked, hidden=given), evidence(OFFER, [X], hidden=hidden))
        turned = offer_of(SMALL, ("y", Y, 3), ("x", X, 5), ("n", N, 1))
        self.assertSameEvidence(evidence(turned, [X], hidden=hidden), evidence(OFFER, [X], hidden=hidden))

    def test_an_equal_space(self):
        space = Space([["a", ["x", "y"]]])
        self.assertEqual(cheapest(OFFER, [count_of(space.where("a", ["x"]))], hidden=[sum_of(space.whole())])[0], 4)

    def test_by_keywords(self):
        self.assertEqual(cheapest(hidden=[Y], asked=[X], offer=OFFER), (5, ("x",)))
        found = evidence(hidden=[Y], asked=[X], offer=OFFER)
        self.assertIs(check_cheapest(found=found, hidden=[Y], answer=(5, ("x",)), asked=[X], offer=OFFER), True)

    def test_the_arguments_stay_as_they_were(self):
        asked, hidden, rows = [X, N], [Least(WHOLE), sum_of(FIRST)], OFFER.rows
        answer = cheapest(OFFER, asked, hidden=hidden)
        check_cheapest(OFFER, asked, answer, evidence(OFFER, asked, hidden=hidden), hidden=hidden)
        self.assertEqual((asked, hidden), ([X, N], [Least(WHOLE), sum_of(FIRST)]))
        self.assertEqual(OFFER.rows, (("n", N, 1), ("x", X, 5), ("y", Y, 3)))
        self.assertIs(OFFER.rows, rows)

    def test_the_same_call_twice(self):
        source = random.Random(354)
        for _ in range(10):
            offer = drawn_offer(source, LINE)
            asked, hidden = drawn_measures(source, offer, 1, 3), drawn_measures(source, offer, 0, 3)
            again = Offer(LINE, list(reversed(offer.rows)))
            self.assertEqual(cheapest(again, asked, hidden=hidden), cheapest(offer, asked, hidden=hidden))
            self.assertSameEvidence(evidence(again, asked, hidden=hidden), evidence(offer, asked, hidden=hidden))


class MakingEvidence(unittest.TestCase):
    def test_lists_become_tuples(self):
        for place, name in enumerate(("lacks", "leaks", "hides")):
            given, inside = [1, [2]], [5]
            given.append(inside)
            fields = [(), (), ()]
            fields[place] = given
            found = Evidence(*fields)
            self.assertEqual(getattr(found, name), (1, [2], [5]))
            self.assertIs(type(getattr(found, name)), tuple)
            self.assertIs(getattr(found, name)[2], inside)
            given.clear()
            self.assertEqual(getattr(found, name), (1, [2], [5]))

    def test_anything_else_stays_as_it_is(self):
        for odd in (None, 0, True, "abc", b"abc", (), (1, [2]), {}, {1: [2]}, N, OFFER, Ratio(1), Evidence):
            for fields in itertools.product((odd, ()), repeat=3):
                found = Evidence(*fields)
                self.assertIs(found.lacks, fields[0])
                self.assertIs(found.leaks, fields[1])
                self.assertIs(found.hides, fields[2])

    def test_by_keywords(self):
        found = Evidence(hides=3, leaks=2, lacks=1)
        self.assertEqual((found.lacks, found.leaks, found.hides), (1, 2, 3))


class Errors(unittest.TestCase):
    def assertNoAsked(self, place, word, asked, hidden=()):
        calls = (
            lambda: cheapest(OFFER, asked, hidden=hidden), lambda: evidence(OFFER, asked, hidden=hidden),
            lambda: check_cheapest(OFFER, asked, None, None, hidden=hidden),
            lambda: check_cheapest(OFFER, asked, (4, ("n", "y")), Evidence((), (), ()), hidden=hidden),
        )
        for call in calls:
            with self.assertRaises(NoAsked) as held:
                call()
            self.assertEqual((held.exception.place, held.exception.word), (place, word))
            self.assertIs(type(held.exception.place), int)

    def assertOtherSpace(self, asked, hidden=()):
        for function in (cheapest, evidence):
            with self.assertRaises(OtherSpace):
                function(OFFER, asked, hidden=hidden)
        with self.assertRaises(OtherSpace):
            check_cheapest(OFFER, asked, None, None, hidden=hidden)

    def test_asked_is_no_sequence(self):
        for odd in NO_SEQUENCES:
            self.assertNoAsked(-1, "asked", odd)
            self.assertNoAsked(-1, "asked", odd, odd)

    def test_hidden_is_no_sequence(self):
        for odd in NO_SEQUENCES:
            self.assertNoAsked(-1, "hidden", [X], odd)

    def test_numbers_of_measures(self):
        for many in (0, 7, 8, 100):
            self.assertNoAsked(-1, "asked", [N] * many)
            self.assertNoAsked(-1, "asked", (None,) * many)
        for many in (7, 8, 100):
            self.assertNoAsked(-1, "hidden", [X], [N] * many)
            self.assertNoAsked(-1, "hidden", [X], (None,) * many)
        for many in range(1, 7):
            self.assertEqual(cheapest(OFFER, [X] * many, hidden=(Y,) * many), (5, ("x",)))

    def test_no_measure(self):
        for odd in NO_MEASURES:
            self.assertNoAsked(0, "asked", [odd])
            self.assertNoAsked(2, "asked", (N, Least(WHOLE), odd, odd))
            self.assertNoAsked(0, "hidden", [X], [odd])
            self.assertNoAsked(1, "hidden", [X], (N, odd, N, None))

    def test_other_space(self):
        for made in (*MARKS, *EXTREMES, Variance, Spread, mean_of):
            measure = made(OTHER.whole())
            self.assertOtherSpace([measure])
            self.assertOtherSpace([X, measure])
            self.assertOtherSpace([X], [measure])
            self.assertOtherSpace([X], [Y, X, measure])

    def test_the_first_error_that_is_due(self):
        far = count_of(OTHER.whole())
        self.assertNoAsked(-1, "asked", [], None)
        self.assertNoAsked(1, "asked", [far, None], None)
        self.assertNoAsked(1, "asked", [far, 5, None], [None])
        self.assertNoAsked(-1, "hidden", [far], None)
        self.assertNoAsked(-1, "hidden", [far], [far] * 7)
        self.assertNoAsked(1, "hidden", [far], [far, 5])


if __name__ == "__main__":
    unittest.main()
