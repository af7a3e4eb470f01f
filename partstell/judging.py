"""Whether evidence shows that an answer about the choices of an offer is right."""

from partstell.checks import is_integer
from partstell.choices import choice_of
from partstell.choosing import Evidence, ask_for_choice, cheap_ranks
from partstell.showing import ask_for_shown, shown_ranks
from partstell.stores import Store
from partstell.telling import check_twins, check_way, tells
from partstell.ways import Twins


def check_cheapest(offer, asked, answer, found, *, hidden=()):
    """Tell whether what was found shows that this is the answer of `cheapest`."""
    ask_for_choice(offer, asked, hidden)
    return is_shown(offer, asked, hidden, answer, found) and are_excluded(offer, answer, found, cheap_ranks(offer))


def check_most_shown(offer, hidden, answer, found):
    """Tell whether what was found shows that this is the answer of `most_shown`."""
    ask_for_shown(offer, hidden)
    # Where nothing is asked, no triple of `lacks` is right: it must be the empty tuple.
    return is_shown(offer, (), hidden, answer, found) and are_excluded(offer, answer, found, shown_ranks(offer))


def is_shown(offer, asked, hidden, answer, found):
    """Tell whether all is right but, perhaps, that too few choices are excluded."""
    if not is_answer(offer, answer) or not isinstance(found, Evidence):
        return False
    if not all([isinstance(field, tuple) for field in (found.lacks, found.leaks, found.hides)]):
        return False
    if not all([is_lack(offer, asked, triple) for triple in found.lacks]):
        return False
    if not all([is_leak(offer, hidden, triple) for triple in found.leaks]):
        return False
    if answer is None:
        return len(found.hides) == 0
    store = offer.store_of(answer[1])
    if len(found.hides) != len(hidden) or not all([tells(store, measure) for measure in asked]):
        return False
    return all([is_hide(store, hidden, place, triple) for place, triple in enumerate(found.hides)])


def is_answer(offer, thing):
    """Tell whether something is None, or a choice behind its total."""
    if thing is None:
        return True
    if not is_tuple(thing, 2):
        return False
    cost, names = thing
    return is_integer(cost) and is_choice(offer, names) and cost == offer.total(names)


def is_choice(offer, thing):
    """Tell whether something is a tuple of offered names, ascending, without duplicates."""
    offered = [row[0] for row in offer.rows]
    if not isinstance(thing, tuple) or not all([name in offered for name in thing]):
        return False
    return list(thing) == sorted(set(thing))


def is_lack(offer, asked, thing):
    """Tell whether something is the place of an asked measure, with two tables on which it is unlike."""
    if not is_tuple(thing, 3):
        return False
    place, one, other = thing
    return is_place(place, asked) and check_twins(Store(offer.space), asked[place], Twins(one, other))


def is_leak(offer, hidden, thing):
    """Tell whether something is a choice, with the place of a hidden measure, and a way for it."""
    if not is_tuple(thing, 3):
        return False
    names, place, way = thing
    if not is_choice(offer, names) or not is_place(place, hidden):
        return False
    return check_way(offer.store_of(names), hidden[place], way)


def is_hide(store, hidden, place, thing):
    """Tell whether something is this place, with twins of the store and the hidden measure there."""
    if not is_tuple(thing, 3):
        return False
    told, one, other = thing
    return is_integer(told) and told == place and check_twins(store, hidden[place], Twins(one, other))


def is_tuple(thing, many):
    """Tell whether something is a tuple of so many items."""
    return isinstance(thing, tuple) and len(thing) == many


def is_place(thing, sequence):
    """Tell whether something is a place in the sequence."""
    return is_integer(thing) and 0 <= thing < len(sequence)


def are_excluded(offer, answer, found, ranks):
    """Tell whether each choice with a lesser rank than the answer's one is excluded."""
    lacks = [alike_choice(offer, one, other) for place, one, other in found.lacks]
    leaks = [choice_of(offer, names) for names, place, way in found.leaks]
    for choice, rank in enumerate(ranks):
        if answer is not None and not rank < ranks[choice_of(offer, answer[1])]:
            continue
        lacking = any([choice & alike == choice for alike in lacks])
        if not lacking and not any([choice & told == told for told in leaks]):
            return False
    return True


def alike_choice(offer, one, other):
    """Give the choice of all parts that have equal values on two tables."""
    return choice_of(offer, [name for name, part, cost in offer.rows if part(one) == part(other)])
