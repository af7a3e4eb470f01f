"""Choices of offered parts as numbers, and which measures they tell."""

from partstell.checks import is_sequence
from partstell.combining import spanning_flags
from partstell.errors import NoAsked, OtherSpace
from partstell.linear import Linear, count_of, numbers_of
from partstell.measures import base_measures, is_measure
from partstell.telling import names_inside

MOST_MEASURES = 6

# A choice is a number here: the bit at a place says whether the row at this place of the offer
# is in it. FLAGS are lists with True or False for each choice.


def ask_measures(word, measures, fewest):
    """Refuse measures that are no sequence of so many, or not all measures."""
    if not is_sequence(measures) or not fewest <= len(measures) <= MOST_MEASURES:
        raise NoAsked(-1, word)
    for place, measure in enumerate(measures):
        if not is_measure(measure):
            raise NoAsked(place, word)


def ask_offered_space(offer, measures):
    """Refuse measures of which one belongs to another space than the offer."""
    for measure in measures:
        if measure.space != offer.space:
            raise OtherSpace()


def names_in(offer, choice):
    """Give the tuple of the names in a choice, ascending."""
    return tuple([row[0] for place, row in enumerate(offer.rows) if choice & (1 << place) != 0])


def choice_of(offer, names):
    """Give the choice that has these names."""
    return sum([1 << place for place, row in enumerate(offer.rows) if row[0] in names])


def lacking_flags(offer, asked):
    """Tell of each choice whether it does not tell all of these measures."""
    told = [told_flags(offer, measure) for measure in asked]
    return [not all([flags[choice] for flags in told]) for choice in range(1 << len(offer.rows))]


def leaking_flags(offer, hidden):
    """Tell of each choice whether it tells one of these measures."""
    told = [told_flags(offer, measure) for measure in hidden]
    return [any([flags[choice] for flags in told]) for choice in range(1 << len(offer.rows))]


def told_flags(offer, measure):
    """Tell of each choice whether it tells the measure."""
    bases = base_measures(measure)
    if isinstance(bases[0], Linear):
        return spanning_flags(vectors_offered(offer), [numbers_of(each) for each in bases])
    needs = [need for each in bases for need in needs_of(offer, each)]
    return [all([choice & need != 0 for need in needs]) for choice in range(1 << len(offer.rows))]


def vectors_offered(offer):
    """Give the items of the offered parts; for least and greatest parts they are all 0."""
    zero = numbers_of(count_of(offer.space.empty()))
    return [numbers_of(part) if isinstance(part, Linear) else zero for name, part, cost in offer.rows]


def needs_of(offer, measure):
    """Give the choices of which each must be met by a choice that tells a least or greatest measure."""
    store = offer.store_of([name for name, part, cost in offer.rows])
    inside = names_inside(store, measure)
    return [
        choice_of(offer, [name for name in inside if cell in store[name].region]) for cell in measure.region.cells
    ]


def greatest_choices(flags):
    """Give the choices that have the flag, while none with one row more has it."""
    found = []
    for choice, flag in enumerate(flags):
        if flag and not any([flags[near] for near in neighbours(choice, len(flags)) if near > choice]):
            found.append(choice)
    return found


def least_choices(flags):
    """Give the choices that have the flag, while none with one row less has it."""
    found = []
    for choice, flag in enumerate(flags):
        if flag and not any([flags[near] for near in neighbours(choice, len(flags)) if near < choice]):
            found.append(choice)
    return found


def neighbours(choice, many):
    """Give the choices, of so many, that have one row more or less than this one."""
    found = []
    bit = 1
    while bit < many:
        found.append(choice ^ bit)
        bit = bit * 2
    return found
