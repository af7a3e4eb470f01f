"""The cheapest choice that tells what is asked and hides what is hidden, with what shows it."""

from partstell.choices import (
    ask_measures, ask_offered_space, greatest_choices, lacking_flags, leaking_flags, least_choices, names_in,
)
from partstell.telling import twins_of, way_of


class Evidence:
    """What shows that a choice is the right answer; the fields are `lacks`, `leaks` and `hides`."""

    def __init__(self, lacks, leaks, hides):
        self.lacks = kept_field(lacks)
        self.leaks = kept_field(leaks)
        self.hides = kept_field(hides)


def cheapest(offer, asked, *, hidden=()):
    """Give the total and the names of the cheapest good choice, or None if no choice is good."""
    ask_for_choice(offer, asked, hidden)
    return first_answer(offer, asked, hidden, cheap_ranks(offer))


def evidence(offer, asked, *, hidden=()):
    """Give what shows that the answer of `cheapest` is right."""
    answer = cheapest(offer, asked, hidden=hidden)
    return evidence_for(offer, asked, hidden, answer)


def kept_field(field):
    """Give what is kept of a field, so that later changes to a list mean nothing."""
    return tuple(field) if isinstance(field, list) else field


def ask_for_choice(offer, asked, hidden):
    """Refuse what cannot be asked of an offer, or be hidden."""
    ask_measures("asked", asked, 1)
    ask_measures("hidden", hidden, 0)
    ask_offered_space(offer, [*asked, *hidden])


def cheap_ranks(offer):
    """Give, for each choice, what is less the cheaper the choice is."""
    names = [names_in(offer, choice) for choice in range(1 << len(offer.rows))]
    return [(offer.total(each), len(each), each) for each in names]


def first_answer(offer, asked, hidden, ranks):
    """Give the total and the names of the good choice with the least rank, or None."""
    lacking = lacking_flags(offer, asked)
    leaking = leaking_flags(offer, hidden)
    best = None
    for choice, rank in enumerate(ranks):
        if lacking[choice] or leaking[choice]:
            continue
        if best is None or rank < ranks[best]:
            best = choice
    if best is None:
        return None
    names = names_in(offer, best)
    return offer.total(names), names


def evidence_for(offer, asked, hidden, answer):
    """Give evidence that excludes each choice that lacks an asked measure or leaks a hidden one."""
    lacks = []
    for choice in greatest_choices(lacking_flags(offer, asked)):
        lacks.append(first_lack(offer.store_of(names_in(offer, choice)), asked))
    leaks = []
    for choice in least_choices(leaking_flags(offer, hidden)):
        leaks.append(first_leak(offer, names_in(offer, choice), hidden))
    hides = []
    if answer is not None:
        store = offer.store_of(answer[1])
        hides = [apart(place, twins_of(store, measure)) for place, measure in enumerate(hidden)]
    return Evidence(lacks, leaks, hides)


def first_lack(store, asked):
    """Give the place of the first measure that the store does not tell, with two tables."""
    for place, measure in enumerate(asked):
        twins = twins_of(store, measure)
        if twins is not None:
            return apart(place, twins)


def first_leak(offer, names, hidden):
    """Give the names, with the place of the first measure that they tell, and a way for it."""
    store = offer.store_of(names)
    for place, measure in enumerate(hidden):
        way = way_of(store, measure)
        if way is not None:
            return names, place, way


def apart(place, twins):
    """Give the place of a measure with the tables of twins for it."""
    return place, twins.one, twins.other
