"""The most parts that can be shown while some measures stay hidden, with what shows it."""

from partstell.choices import ask_measures, ask_offered_space, names_in
from partstell.choosing import evidence_for, first_answer


def most_shown(offer, hidden):
    """Give the total and the names of the first choice that tells no hidden measure, or None."""
    ask_for_shown(offer, hidden)
    return first_answer(offer, (), hidden, shown_ranks(offer))


def show_evidence(offer, hidden):
    """Give what shows that the answer of `most_shown` is right."""
    answer = most_shown(offer, hidden)
    return evidence_for(offer, (), hidden, answer)


def ask_for_shown(offer, hidden):
    """Refuse what cannot be hidden from an offer."""
    ask_measures("hidden", hidden, 1)
    ask_offered_space(offer, hidden)


def shown_ranks(offer):
    """Give, for each choice, what is less the more the choice shows."""
    names = [names_in(offer, choice) for choice in range(1 << len(offer.rows))]
    return [(-offer.total(each), -len(each), each) for each in names]
