"""Measures of groups of cells, and the values of coarse groups from those of fine ones."""

from partstell.checks import ask_same_space, ask_values
from partstell.errors import NoKind, NoRoll
from partstell.kinds import EXTREME_KINDS, LINEAR_KINDS, measure_of_kind
from partstell.measures import joined_value


def grouped(space, kind, axes, *, within=None):
    """Give a dict from "g0", "g1" .. to the measures of the groups by these axes."""
    region = space.whole() if within is None else within
    ask_same_space(space.whole(), region)
    ask_kind(kind)
    return {f"g{number}": measure_of_kind(kind, group) for number, group in enumerate(region.groups(axes))}


def rolls_up(space, stored, axes):
    """Tell whether the grouping by one of the stored sequences reaches the one by these axes."""
    whole = space.whole()
    fine = [whole.places_of_axes(each) for each in stored]
    coarse = whole.places_of_axes(axes)
    return any([reaches(space, each, coarse) for each in fine])


def rolled(space, kind, fine, coarse, values):
    """Give the dict of the values of the coarse groups from those of the fine groups."""
    ask_kind(kind)
    whole = space.whole()
    fine_places = whole.places_of_axes(fine)
    if not reaches(space, fine_places, whole.places_of_axes(coarse)):
        raise NoRoll()
    below = grouped(space, kind, fine)
    # In this order: the names as strings would put "g10" ahead of "g2".
    ask_values(list(below), values)
    regions = whole.groups(fine)
    found = {}
    for number, group in enumerate(whole.groups(coarse)):
        name = f"g{number}"
        names = [each for each, region in zip(below, regions) if region <= group]
        found[name] = joined_value(measure_of_kind(kind, group), [values[each] for each in names])
    return found


def ask_kind(kind):
    """Refuse what is no kind of measure for groups."""
    if kind not in LINEAR_KINDS + EXTREME_KINDS:
        raise NoKind(kind)


def reaches(space, fine, coarse):
    """Tell whether each broad axis at one of the coarse places is at one of the fine ones."""
    broad = [place for place in coarse if len(space.axes[place][1]) > 1]
    return all([place in fine for place in broad])
