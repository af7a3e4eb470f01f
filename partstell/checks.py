"""What several files ask of the things that they are given."""

from partstell.errors import NoValues, OtherSpace

LETTERS = "abcdefghijklmnopqrstuvwxyz"
DIGITS = "0123456789"


def is_integer(thing):
    """Tell whether something is an integer; True and False are none."""
    return isinstance(thing, int) and not isinstance(thing, bool)


def is_sequence(thing):
    """Tell whether something may stand where a sequence is expected."""
    return isinstance(thing, (list, tuple))


def is_name(thing):
    """Tell whether something is a NAME."""
    if not isinstance(thing, str) or not 1 <= len(thing) <= 8:
        return False
    return thing[0] in LETTERS and all([sign in LETTERS + DIGITS for sign in thing])


def ask_same_space(one, other):
    """Refuse two things, each with a field `space`, whose spaces are not equal."""
    if one.space != other.space:
        raise OtherSpace()


def ask_values(names, values):
    """Refuse a dict of values in which one of these names is missing."""
    for name in names:
        if name not in values:
            raise NoValues(name)
