"""Offers for the tests, and a plain search through all choices."""

import itertools

from drawn import drawn_measure, drawn_part, is_told
from partstell.choosing import Evidence
from partstell.linear import Linear
from partstell.offers import Offer
from partstell.ratios import Ratio
from partstell.tables import Table
from partstell.telling import check_way
from partstell.ways import Way

MOST_TRIPLES = 252
NAMES = ("a", "a10", "a9", "b", "c", "d1", "e", "zz", "low", "high", "m", "n")
COSTS = (0, 0, 1, 1, 2, 3, 10 ** 9)


def offer_of(space, *rows):
    return Offer(space, [(name, part, cost) for name, part, cost in rows])


def drawn_offer(source, space, most=6, draw=drawn_part):
    names = source.sample(NAMES, source.randint(1, most))
    parts = [draw(source, space) for _ in names]
    for place in range(1, len(parts)):
        if source.random() < 0.25:
            # A part that the others tell, or one that tells what others tell.
            parts[place] = near_part(source, parts[:place])
    return Offer(space, [(name, part, source.choice(COSTS)) for name, part in zip(names, parts)])


def near_part(source, parts):
    part = source.choice(parts)
    for other in parts:
        if type(other) is type(part) and source.random() < 0.6:
            part = part + other if isinstance(part, Linear) else type(part)(part.region | other.region)
    return part * source.choice((1, 3, Ratio(-1, 2))) if isinstance(part, Linear) else part


def drawn_measures(source, offer, fewest, most):
    """Give measures of any of the classes, many of them made of the parts."""
    store = offer.store_of(all_names(offer))
    return [drawn_measure(source, store, drawn_part_like) for _ in range(source.randint(fewest, most))]


def drawn_told(source, offer, most):
    """Give measures that all parts together tell, and perhaps one that they do not."""
    store = offer.store_of(all_names(offer))
    told = [measure for measure in drawn_measures(source, offer, 20, 20) if is_told(store, measure)]
    told += [part for name, part, cost in offer.rows]
    asked = [source.choice(told) for _ in range(source.randint(1, most))]
    if source.random() < 0.2:
        asked[0] = drawn_measures(source, offer, 1, 1)[0]
    return asked


def drawn_part_like(source, space):
    part = drawn_part(source, space)
    return part if isinstance(part, Linear) else drawn_part_like(source, space)


def all_names(offer):
    return [name for name, part, cost in offer.rows]


def all_choices(offer):
    for many in range(len(offer.rows) + 1):
        yield from itertools.combinations(all_names(offer), many)


def cost_of(offer, names):
    return sum(cost for name, part, cost in offer.rows if name in names)


def tells_each(offer, names, measures):
    store = offer.store_of(names)
    return all(is_told(store, measure) for measure in measures)


def tells_one(offer, names, measures):
    store = offer.store_of(names)
    return any(is_told(store, measure) for measure in measures)


def good_choices(offer, asked, hidden):
    return [
        names for names in all_choices(offer)
        if tells_each(offer, names, asked) and not tells_one(offer, names, hidden)
    ]


def cheap_key(offer):
    return lambda names: (cost_of(offer, names), len(names), names)


def shown_key(offer):
    return lambda names: (-cost_of(offer, names), -len(names), names)


def searched(offer, asked, hidden, key):
    """Give the answer by a search through all choices, and the choices that are ahead of it."""
    good = good_choices(offer, asked, hidden)
    if not good:
        return None, list(all_choices(offer))
    best = min(good, key=key)
    return (cost_of(offer, best), best), [names for names in all_choices(offer) if key(names) < key(best)]


class Judging:
    """What is asserted of evidence, rule by rule; to be mixed into a test case."""

    def assertTables(self, offer, one, other):
        for table in (one, other):
            self.assertIs(type(table), Table)
            self.assertEqual(table.space, offer.space)

    def assertTriples(self, triples, most=MOST_TRIPLES):
        self.assertIs(type(triples), tuple)
        self.assertLessEqual(len(triples), most)
        for triple in triples:
            self.assertIs(type(triple), tuple)
            self.assertEqual(len(triple), 3)

    def assertLacks(self, offer, asked, lacks):
        """Check the triples and give, for each, the names of the parts that are equal on its tables."""
        self.assertTriples(lacks)
        found = []
        for place, one, other in lacks:
            self.assertIs(type(place), int)
            self.assertIn(place, range(len(asked)))
            self.assertTables(offer, one, other)
            self.assertNotEqual(asked[place](one), asked[place](other))
            found.append({name for name, part, cost in offer.rows if part(one) == part(other)})
        return found

    def assertLeaks(self, offer, hidden, leaks):
        """Check the triples and give the names of each."""
        self.assertTriples(leaks)
        found = []
        for names, place, way in leaks:
            self.assertIs(type(names), tuple)
            self.assertEqual(list(names), sorted(set(names)))
            self.assertLessEqual(set(names), set(all_names(offer)))
            self.assertIs(type(place), int)
            self.assertIn(place, range(len(hidden)))
            self.assertIs(type(way), Way)
            self.assertIs(check_way(offer.store_of(names), hidden[place], way), True)
            found.append(set(names))
        return found

    def assertHides(self, offer, hidden, answer, hides):
        self.assertTriples(hides, len(hidden))
        self.assertEqual([triple[0] for triple in hides], list(range(len(hidden) if answer else 0)))
        for place, one, other in hides:
            self.assertIs(type(place), int)
            self.assertTables(offer, one, other)
            self.assertNotEqual(hidden[place](one), hidden[place](other))
            store = offer.store_of(answer[1])
            self.assertEqual(store.part_values(one), store.part_values(other))

    def assertEvidence(self, offer, asked, hidden, answer, ahead, found):
        self.assertIs(type(found), Evidence)
        lacks = self.assertLacks(offer, asked, found.lacks)
        leaks = self.assertLeaks(offer, hidden, found.leaks)
        self.assertHides(offer, hidden, answer, found.hides)
        for names in ahead:
            excluded = any(set(names) <= alike for alike in lacks) or any(told <= set(names) for told in leaks)
            self.assertTrue(excluded, names)

    def assertSameEvidence(self, one, other):
        self.assertEqual((one.lacks, one.leaks, one.hides), (other.lacks, other.leaks, other.hides))
