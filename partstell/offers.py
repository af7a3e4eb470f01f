"""Offers: parts with costs, of which some may be chosen."""

from partstell.checks import is_integer, is_name, is_sequence
from partstell.errors import NoOffer, NoSuch
from partstell.stores import Store, is_part

MOST_OFFERED = 10
MOST_COST = 10 ** 9


class Offer:
    """An offer; the field `rows` has triples of name, part and cost, ascending by name."""

    def __init__(self, space, rows):
        check_offer(space, rows)
        found = {name: (name, part, cost) for name, part, cost in rows}
        self.space = space
        self.rows = tuple([found[name] for name in sorted([str(name) for name in found])])

    def store_of(self, names):
        """Give a new store with the parts of these names."""
        store = Store(self.space)
        for name, part, cost in chosen_rows(self, names):
            store[name] = part
        return store

    def total(self, names):
        """Give the sum of the costs of these names."""
        return sum([cost for name, part, cost in chosen_rows(self, names)])


def chosen_rows(offer, names):
    """Give the rows of these names, each once."""
    offered = [name for name, part, cost in offer.rows]
    for name in names:
        if name not in offered:
            raise NoSuch(name)
    return [row for row in offer.rows if row[0] in names]


def check_offer(space, rows):
    """Refuse rows of which no offer can be made."""
    if not is_sequence(rows) or not 1 <= len(rows) <= MOST_OFFERED:
        raise NoOffer(-1, "rows")
    names = []
    for place, row in enumerate(rows):
        word = wrong_row(space, row, names)
        if word is not None:
            raise NoOffer(place, word)
        names.append(row[0])


def wrong_row(space, row, names):
    """Give the first word that is due for a row behind rows of these names, or None."""
    if not is_sequence(row) or len(row) != 3:
        return "row"
    name, part, cost = row
    if not is_name(name):
        return "name"
    if name in names:
        return "twice"
    if not is_part(part):
        return "part"
    if part.space != space:
        return "space"
    if not is_integer(cost) or not 0 <= cost <= MOST_COST:
        return "cost"
    return None
