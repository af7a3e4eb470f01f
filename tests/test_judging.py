"""Promises [37] and [38]: whether evidence shows that an answer is right."""

import itertools
import random
import unittest

from drawn import LINE, OTHER, SMALL
from offering import (
    all_choices, cheap_key, cost_of, drawn_measures, drawn_offer, drawn_told, good_choices, offer_of, searched,
    shown_key,
)
from partstell.choosing import Evidence, cheapest, evidence
from partstell.judging import check_cheapest, check_most_shown
from partstell.linear import sum_of
from partstell.measures import Least, Variance, mean_of
from partstell.ratios import Ratio
from partstell.showing import most_shown, show_evidence
from partstell.spaces import Space
from partstell.stores import Store
from partstell.tables import Table
from partstell.telling import twins_of, way_of
from partstell.ways import Twins, Way
from test_choosing import FIRST, N, OFFER, WHOLE, X, Y

A, B = SMALL.cells
ANSWER = (5, ("x",))
ANYTHING = (
    None, 0, 1, 5, True, False, "", "x", "abc", b"x", (), [], {}, (5,), [5], (5, ("x",), 1), [5, ("x",)], {5: ("x",)},
    ((5, ("x",)),), ("x", 5), (None, None), N, WHOLE, SMALL, OFFER, Table(SMALL), Ratio(5), Store(SMALL),
    Twins(5, ("x",)), Way(5, ("x",)), Evidence(5, ("x",), 1), Evidence, cheapest, ValueError(),
)
NO_ANSWERS = (
    (5, ["x"]), [5, ("x",)], [5, ["x"]], (5, "x"), ("5", ("x",)), (Ratio(5), ("x",)), (4, ("x",)), (6, ("x",)),
    (-5, ("x",)), (5, ("x", "x")), (10, ("x", "x")), (None, ("x",)), (5, None), (5, {"x": True}), (5, (("x",),)),
    (5, ("X",)), (5, (b"x",)), (0, ("none",)), (5, ("x", "none")), (5, ("none", "x")), (5, (5,)), (5, (None,)),
    (5, (["x"],)), (5, ({},)), (5, (X,)), (True, ("n",)), (8, ("y", "x")), (6, ("x", "n")), (4, ("y", "n")),
    (5, ("x", None)), (0, ("",)), (0, []), (False, ()), (0, ""), (0, {}), (0, None), (Ratio(0), ()), ((), 0),
    (ANSWER,), (5, ("x",), ()), (5, ("x",), ("x",)), (5,), (("x",),), (5, ("x"), ("y")), (5, OFFER),
)


def is_excluded(offer, names, lacks, leaks):
    parts = [part for name, part, cost in offer.rows if name in names]
    if any(all(part(one) == part(other) for part in parts) for place, one, other in lacks):
        return True
    return any(set(told) <= set(names) for told, place, way in leaks)


class Checking(unittest.TestCase):
    def check(self, answer, found, asked=(X,), hidden=(Y,), offer=OFFER):
        return check_cheapest(offer, list(asked), answer, found, hidden=list(hidden))

    def assertRefused(self, answer, found, asked=(X,), hidden=(Y,), offer=OFFER):
        self.assertIs(self.check(answer, found, asked, hidden, offer), False, (answer, found))

    def setUp(self):
        self.right = evidence(OFFER, [X], hidden=[Y])
        self.lacks, self.leaks, self.hides = self.right.lacks, self.right.leaks, self.right.hides

    def changed(self, field, worth):
        fields = {"lacks": self.lacks, "leaks": self.leaks, "hides": self.hides, field: worth}
        return Evidence(**fields)

    def test_right(self):
        self.assertIs(self.check(ANSWER, self.right), True)
        self.assertIs(self.check(ANSWER, Evidence(list(self.lacks), list(self.leaks), list(self.hides))), True)

    def test_anything_as_the_answer(self):
        for odd in ANYTHING + NO_ANSWERS:
            self.assertRefused(odd, self.right)
        for odd in ANYTHING[1:] + NO_ANSWERS:
            self.assertRefused(odd, evidence(OFFER, [X, Y], hidden=[N]), (X, Y), (N,))
        empty = evidence(OFFER, [N * 0])
        self.assertIs(self.check((0, ()), empty, [N * 0], []), True)
        for odd in ANYTHING + NO_ANSWERS:
            self.assertRefused(odd, empty, [N * 0], [])

    def test_anything_as_what_was_found(self):
        fields = (self.lacks, self.leaks, self.hides)
        for odd in (*ANYTHING, fields, list(fields), [self.right], (self.right,), {"found": self.right}):
            self.assertRefused(ANSWER, odd)
            self.assertRefused(None, odd)

    def test_anything_as_a_field(self):
        for field in ("lacks", "leaks", "hides"):
            for odd in ANYTHING:
                if odd not in ((), []):
                    self.assertRefused(ANSWER, self.changed(field, odd))

    def test_anything_as_a_triple(self):
        one, other = Table(SMALL), Table(SMALL, [(A, 0, 1), (B, 1, 1)])
        way = way_of(OFFER.store_of(("y",)), Y)
        lists = ([0, one, other], (0, one), (0, one, other, other), {0: one}, [("y",), 0, way], (("y",), 0))
        for field in ("lacks", "leaks", "hides"):
            right = getattr(self.right, field)
            near = (list(right[0]), right[0][:2], (*right[0], right[0][2]), right, Twins(one, other))
            for odd in (*ANYTHING, *lists, *near):
                self.assertRefused(ANSWER, self.changed(field, (*right, odd)))
                self.assertRefused(ANSWER, self.changed(field, (odd, *right)))
                self.assertRefused(ANSWER, self.changed(field, (odd, *right[1:])))

    def test_a_triple_that_is_left_out(self):
        # Each of these is needed: without it, a choice ahead of the answer is not excluded.
        lacks = evidence(OFFER, [X]).lacks
        self.assertEqual(len(lacks), 2)
        for rest in (lacks[:1], lacks[1:], ()):
            self.assertRefused((4, ("n", "y")), Evidence(rest, (), ()), [X], [])
        leaks = evidence(OFFER, [N * 0], hidden=[N]).leaks
        self.assertEqual(evidence(OFFER, [N * 0], hidden=[N * 0]).leaks[0][:2], ((), 0))
        self.assertRefused(None, Evidence((), (), ()), [N * 0], [N * 0])
        self.assertIs(self.check((0, ()), Evidence((), leaks, self.hides), [N * 0], [N]), True)
        self.assertRefused(ANSWER, self.changed("hides", ()))

    def test_each_triple_that_is_left_out_of_drawn_evidence(self):
        source = random.Random(373)
        found = {True: 0, False: 0}
        for _ in range(25):
            offer = drawn_offer(source, SMALL, 5)
            asked, hidden = drawn_told(source, offer, 2), drawn_measures(source, offer, 0, 2)
            answer, right = cheapest(offer, asked, hidden=hidden), evidence(offer, asked, hidden=hidden)
            wanted, ahead = searched(offer, asked, hidden, cheap_key(offer))
            for place in range(len(right.lacks) + len(right.leaks)):
                lacks = right.lacks[:place] + right.lacks[place + 1:]
                at = place - len(right.lacks)
                leaks = right.leaks if at < 0 else right.leaks[:at] + right.leaks[at + 1:]
                still = all(is_excluded(offer, names, lacks, leaks) for names in ahead)
                judged = check_cheapest(offer, asked, answer, Evidence(lacks, leaks, right.hides), hidden=hidden)
                self.assertIs(judged, still)
                found[still] += 1
        self.assertGreater(min(found.values()), 5, found)

    def test_one_more_right_triple(self):
        lack = (0, Table(SMALL), Table(SMALL, [(A, 0, 1), (B, 1, 10 ** 30)]))
        for lacks in ((*self.lacks, lack), (lack, *self.lacks), self.lacks * 3):
            self.assertIs(self.check(ANSWER, self.changed("lacks", lacks)), True)
        leak = (("n", "x", "y"), 0, Way(Y, {"n": Ratio(1), "x": Ratio(-1)}))
        for leaks in ((*self.leaks, leak), (leak, *self.leaks), self.leaks * 100):
            self.assertIs(self.check(ANSWER, self.changed("leaks", leaks)), True)

    def test_one_more_wrong_triple(self):
        same = Table(SMALL, [(A, 3, 4)])
        far = Table(OTHER, [(("q",), 3, 4)])
        line = Table(LINE, [(("x",), 3, 4)])
        big = Table(SMALL, [(A, 3, 5)])
        for wrong in (
            (0, same, same), (0, same, same.put(A, 5).without(A, 3)), (0, same, same.put(B, 1)), (0, far, same),
            (0, same, far), (0, far, Table(OTHER)), (0, line, Table(LINE)), (-1, same, big), (1, same, big),
            (10 ** 30, same, big), (False, same, big), (None, same, big), ("0", same, big), (Ratio(0), same, big),
            (0, same, None), (0, None, same), (0, same.rows, big.rows), (0, 1, 2), (X, same, big), ((), same, big),
            (0, Twins(same, big), big), (0, same, [big]),
        ):
            self.assertRefused(ANSWER, self.changed("lacks", (*self.lacks, wrong)))
        self.assertIs(self.check(ANSWER, self.changed("lacks", (*self.lacks, (0, same, big)))), True)
        way = way_of(OFFER.store_of(("y",)), Y)
        for wrong in (
            (("x",), 0, way), ((), 0, way), (["y"], 0, way), ("y", 0, way), (("y", "y"), 0, way),
            (("y", "x"), 0, way), (("none",), 0, way), (("none", "y"), 0, way), (("y",), 1, way), (("y",), -1, way),
            (("y",), False, way), (("y",), None, way), (("y",), 0, None), (("y",), 0, way.pieces), (("y",), 0, [way]),
            (("y",), 0, Way(X, way.pieces)), (("y",), 0, Way(Y, {"y": Ratio(2)})), (("y",), 0, Way(Y, {"x": Ratio(1)})),
            (("y",), 0, Way(Y, {"n": Ratio(1), "x": Ratio(-1)})), ((5,), 0, way), ((None,), 0, way), (None, 0, way),
            (("y",), Ratio(0), way), (("y", None), 0, way), ((("y",),), 0, way), ({"y": True}, 0, way),
        ):
            self.assertRefused(ANSWER, self.changed("leaks", (*self.leaks, wrong)))
        for right in ((("y",), 0, way), (("x", "y"), 0, way)):
            self.assertIs(self.check(ANSWER, self.changed("leaks", (*self.leaks, right))), True)

    def test_places_of_asked_measures(self):
        asked = (X, N * 0, sum_of(WHOLE))
        offer = offer_of(SMALL, ("s", sum_of(WHOLE), 1), ("x", X, 1))
        found = evidence(offer, asked)
        answer = (2, ("s", "x"))
        self.assertIs(self.check(answer, found, asked, [], offer), True)
        one = Table(SMALL, [(A, 0, 1)])
        more = (0, Table(SMALL), one)
        self.assertIs(self.check(answer, Evidence((*found.lacks, more), (), ()), asked, [], offer), True)
        for place in (1, 2, 3, -1, -3):
            wrong = (place, Table(SMALL), one)
            self.assertRefused(answer, Evidence((*found.lacks, wrong), (), ()), asked, [], offer)
        right = (2, Table(SMALL), Table(SMALL, [(A, 1, 1)]))
        self.assertIs(self.check(answer, Evidence((*found.lacks, right), (), ()), asked, [], offer), True)

    def test_hides(self):
        hidden = (Y, sum_of(WHOLE), Least(WHOLE))
        found = evidence(OFFER, [X], hidden=hidden)
        lacks, leaks, hides = found.lacks, found.leaks, found.hides
        self.assertIs(self.check(ANSWER, found, hidden=hidden), True)
        for order in itertools.permutations(hides):
            self.assertIs(self.check(ANSWER, Evidence(lacks, leaks, order), hidden=hidden), order == hides)
        one, other = hides[1][1:]
        for wrong in (
            (), hides[:2], hides[1:], (*hides, hides[2]), (hides[0], hides[0], hides[2]), (*hides, None),
            (hides[0], None, hides[2]), (hides[0], [1, one, other], hides[2]), (hides[0], (1, one), hides[2]),
            (hides[0], (True, one, other), hides[2]), (hides[0], (1, one, one), hides[2]),
            (hides[0], (1, one, other.put(A, 1)), hides[2]), (hides[0], (1, None, other), hides[2]),
            (hides[0], (1, Table(OTHER), Table(OTHER, [(("x",), 1, 1)])), hides[2]),
            (hides[0], (0, one, other), hides[2]),
            (hides[0], (1, one, other, other), hides[2]), (hides[0], (-2, one, other), hides[2]),
        ):
            self.assertRefused(ANSWER, Evidence(lacks, leaks, wrong), hidden=hidden)
        twins = twins_of(OFFER.store_of(("x",)), hidden[1])
        right = (1, twins.other, twins.one)
        self.assertIs(self.check(ANSWER, Evidence(lacks, leaks, (hides[0], right, hides[2])), hidden=hidden), True)

    def test_hides_of_another_choice(self):
        one, other = Table(SMALL, [(A, 0, 1)]), Table(SMALL, [(B, 0, 1)])
        self.assertRefused(ANSWER, self.changed("hides", ((0, one, other),)))
        self.assertIs(self.check(ANSWER, self.changed("hides", ((0, Table(SMALL), other),))), True)

    def test_without_an_answer(self):
        found = evidence(OFFER, [X, Y], hidden=[N])
        self.assertIs(self.check(None, found, (X, Y), (N,)), True)
        hide = (0, Table(SMALL), Table(SMALL, [(A, 0, 1)]))
        for wrong in ((hide,), (None,), ((),), None, {}, "", 0):
            self.assertRefused(None, Evidence(found.lacks, found.leaks, wrong), (X, Y), (N,))
        for field in ("lacks", "leaks"):
            fields = {"lacks": found.lacks, "leaks": found.leaks, "hides": (), field: ()}
            self.assertRefused(None, Evidence(**fields), (X, Y), (N,))
        self.assertRefused(None, self.right)
        self.assertRefused(None, Evidence(self.lacks, self.leaks, ()))

    def test_a_good_answer_that_is_not_the_first(self):
        for answer in ((9, ("n", "x", "y")), (8, ("x", "y")), (6, ("n", "x")), (5, ("x",))):
            found = evidence(OFFER, [X])
            self.assertRefused(answer, found, [X], [])
            full = Evidence(found.lacks * 2, (), ())
            self.assertRefused(answer, full, [X], [])
        self.assertIs(self.check((4, ("n", "y")), evidence(OFFER, [X]), [X], []), True)

    def test_answers_that_do_not_tell_what_is_asked(self):
        lacks = evidence(OFFER, [X], hidden=[]).lacks
        for answer in ((0, ()), (1, ("n",)), (3, ("y",))):
            self.assertRefused(answer, Evidence(lacks, (), ()), [X], [])
            self.assertRefused(answer, Evidence((), (), ()), [X], [])

    def test_the_empty_choice(self):
        self.assertIs(self.check((0, ()), Evidence((), (), ()), [N * 0], []), True)
        self.assertRefused((0, ()), Evidence((), (), ()), [N * 0], [N])
        hide = (0, Table(SMALL), Table(SMALL, [(A, 0, 1)]))
        self.assertIs(self.check((0, ()), Evidence((), (), (hide,)), [N * 0], [N]), True)

    def test_only_one_pair_is_ever_shown(self):
        source = random.Random(371)
        for _ in range(12):
            offer = drawn_offer(source, SMALL, 4)
            asked, hidden = drawn_told(source, offer, 2), drawn_measures(source, offer, 0, 2)
            answer, found = cheapest(offer, asked, hidden=hidden), evidence(offer, asked, hidden=hidden)
            good = good_choices(offer, asked, hidden)
            key = cheap_key(offer)
            for names in all_choices(offer):
                pair = (cost_of(offer, names), names)
                self.assertIs(check_cheapest(offer, asked, pair, found, hidden=hidden), pair == answer)
                store = offer.store_of(names)
                if names in good:
                    # Right hides for this choice do not help, because the answer is ahead of it.
                    twins = [(place, twins_of(store, each)) for place, each in enumerate(hidden)]
                    hides = [(place, each.one, each.other) for place, each in twins]
                    judged = check_cheapest(
                        offer, asked, pair, Evidence(found.lacks, found.leaks, hides), hidden=hidden
                    )
                    self.assertIs(judged, pair == answer)
                    self.assertLessEqual(key(answer[1]), key(names))
            self.assertIs(check_cheapest(offer, asked, None, found, hidden=hidden), answer is None)

    def test_an_equal_space(self):
        space = Space([["a", ["x", "y"]]])
        again = [(place, Table(space, one.rows), Table(space, other.rows)) for place, one, other in self.lacks]
        self.assertIs(self.check(ANSWER, self.changed("lacks", again)), True)

    def test_lists_in_place_of_tuples(self):
        triples = {"lacks": self.lacks, "leaks": self.leaks, "hides": self.hides}
        for field, right in triples.items():
            self.assertRefused(ANSWER, self.changed(field, tuple(map(list, right))))
        names, place, way = self.leaks[0]
        self.assertRefused(ANSWER, self.changed("leaks", ((list(names), place, way), *self.leaks[1:])))

    def test_another_measure_of_the_same_parts(self):
        offer = offer_of(SMALL, ("n", N, 1), ("s", sum_of(WHOLE), 2), ("l", Least(WHOLE), 3))
        mean = mean_of(WHOLE)
        found = evidence(offer, [mean], hidden=[Least(WHOLE)])
        self.assertIs(self.check((3, ("n", "s")), found, [mean], [Least(WHOLE)], offer), True)
        self.assertRefused((3, ("n", "s")), found, [mean], [Least(FIRST)], offer)
        self.assertRefused((3, ("n", "s")), found, [Variance(WHOLE)], [Least(WHOLE)], offer)


class CheckingShown(unittest.TestCase):
    def check(self, answer, found, hidden=(X,), offer=OFFER):
        return check_most_shown(offer, list(hidden), answer, found)

    def assertRefused(self, answer, found, hidden=(X,), offer=OFFER):
        self.assertIs(self.check(answer, found, hidden, offer), False, (answer, found))

    def setUp(self):
        self.right = show_evidence(OFFER, [X])
        self.leaks, self.hides = self.right.leaks, self.right.hides
        self.answer = (3, ("y",))

    def test_right(self):
        self.assertEqual(most_shown(OFFER, [X]), self.answer)
        self.assertIs(self.check(self.answer, self.right), True)
        self.assertIs(self.check(self.answer, Evidence([], list(self.leaks), list(self.hides))), True)

    def test_anything_as_the_answer(self):
        for odd in ANYTHING + NO_ANSWERS + (ANSWER,):
            self.assertRefused(odd, self.right)

    def test_anything_as_what_was_found(self):
        for odd in (*ANYTHING, ((), self.leaks, self.hides), (self.right,), [self.right]):
            self.assertRefused(self.answer, odd)
            self.assertRefused(None, odd)

    def test_anything_as_a_field(self):
        for odd in ANYTHING:
            if odd not in ((), []):
                self.assertRefused(self.answer, Evidence(odd, self.leaks, self.hides))
            self.assertRefused(self.answer, Evidence((), odd, self.hides))
            self.assertRefused(self.answer, Evidence((), self.leaks, odd))

    def test_lacks_is_the_empty_tuple(self):
        one, other = Table(SMALL), Table(SMALL, [(A, 0, 1)])
        lacks = evidence(OFFER, [X]).lacks
        for wrong in (lacks, ((0, one, other),), ((-1, one, other),), ((),), (None,), {}, "", None, 0, False):
            self.assertRefused(self.answer, Evidence(wrong, self.leaks, self.hides))

    def test_a_triple_that_is_left_out_or_added(self):
        for place in range(len(self.leaks)):
            self.assertRefused(self.answer, Evidence((), self.leaks[:place] + self.leaks[place + 1:], self.hides))
        self.assertRefused(self.answer, Evidence((), self.leaks, ()))
        self.assertRefused(self.answer, Evidence((), self.leaks, self.hides * 2))
        more = (("n", "x", "y"), 0, Way(X, {"n": Ratio(1), "y": Ratio(-1)}))
        self.assertIs(self.check(self.answer, Evidence((), (more, *self.leaks), self.hides)), True)
        for wrong in (
            (("y",), 0, more[2]), (("n", "x"), 0, more[2]), (("n", "x", "y"), 1, more[2]), list(more), more[:2],
            (["n", "x", "y"], 0, more[2]), (("n", "x", "y"), -1, more[2]), (("y", "x", "n"), 0, more[2]),
            (("n", "x", "y"), 0, more[2].pieces), (("n", "x", "y"), False, more[2]),
        ):
            self.assertRefused(self.answer, Evidence((), (*self.leaks, wrong), self.hides))

    def test_wrong_hides(self):
        place, one, other = self.hides[0]
        for wrong in (
            [place, one, other], (place, one), (place, one, one), (1, one, other), (-1, one, other), None,
            (False, one, other), (place, one, other.put(B, 1)), (place, None, other),
            (place, Table(OTHER), Table(OTHER, [(("x",), 1, 1)])),
            (place, Table(SMALL), Table(SMALL, [(A, 0, 1), (B, 0, 1)])),
        ):
            self.assertRefused(self.answer, Evidence((), self.leaks, (wrong,)))
        twins = (0, Table(SMALL), Table(SMALL, [(A, 0, 1)]))
        self.assertIs(self.check(self.answer, Evidence((), self.leaks, (twins,))), True)

    def test_without_an_answer(self):
        for hidden in ([N * 0], [X, Least(SMALL.empty())]):
            self.assertIsNone(most_shown(OFFER, hidden))
            found = show_evidence(OFFER, hidden)
            self.assertIs(self.check(None, found, hidden), True)
            self.assertRefused(None, Evidence((), (), ()), hidden)
            self.assertRefused((0, ()), found, hidden)
        leak = ((), 0, Way(N * 0, {}))
        self.assertIs(self.check(None, Evidence((), (leak,), ()), [N * 0]), True)
        self.assertRefused(None, Evidence((), (leak,), (leak,)), [N * 0])
        self.assertRefused(None, self.right)

    def test_only_one_pair_is_ever_shown(self):
        source = random.Random(372)
        for _ in range(15):
            offer = drawn_offer(source, SMALL, 4)
            hidden = drawn_measures(source, offer, 1, 2)
            answer, found = most_shown(offer, hidden), show_evidence(offer, hidden)
            good = good_choices(offer, (), hidden)
            key = shown_key(offer)
            for names in all_choices(offer):
                pair = (cost_of(offer, names), names)
                store = offer.store_of(names)
                twins = [(place, twins_of(store, each)) for place, each in enumerate(hidden)]
                hides = tuple((place, each.one, each.other) for place, each in twins if each is not None)
                judged = check_most_shown(offer, hidden, pair, Evidence((), found.leaks, hides))
                self.assertIs(judged, pair == answer)
                if names in good:
                    self.assertLessEqual(key(answer[1]), key(names))
            self.assertIs(check_most_shown(offer, hidden, None, found), answer is None)


if __name__ == "__main__":
    unittest.main()
