"""Small spaces of cells, with their axes and members."""

from partstell.checks import is_name, is_sequence
from partstell.errors import NoAxis, NoCell, NoMember, NoSpace
from partstell.regions import Region

MOST_AXES = 4
MOST_MEMBERS = 8
MOST_CELLS = 24


class Space:
    """A space: the fields are `axes` and `cells`, the last axis changing fastest."""

    def __init__(self, axes):
        check_axes(axes)
        self.axes = tuple([(name, tuple(members)) for name, members in axes])
        self.cells = cells_of(self.axes)

    def __eq__(self, other):
        return isinstance(other, Space) and self.axes == other.axes

    def place_of(self, cell):
        """Give the place of a cell."""
        if cell not in self.cells:
            raise NoCell(cell)
        return self.cells.index(cell)

    def place_of_axis(self, axis):
        """Give the place of the axis of this name."""
        names = [name for name, members in self.axes]
        if axis not in names:
            raise NoAxis(axis)
        return names.index(axis)

    def where(self, axis, members):
        """Give the region of the cells with one of these members on the named axis."""
        place = self.place_of_axis(axis)
        known = self.axes[place][1]
        for member in members:
            if member not in known:
                raise NoMember(member)
        return Region(self, [cell for cell in self.cells if cell[place] in members])

    def whole(self):
        """Give the region of all cells."""
        return Region(self, self.cells)

    def empty(self):
        """Give the region without cells."""
        return Region(self, ())


def check_axes(axes):
    """Refuse axes of which no space can be made."""
    if not is_sequence(axes) or not 1 <= len(axes) <= MOST_AXES:
        raise NoSpace(-1, "axes")
    names = []
    many = 1
    for place, axis in enumerate(axes):
        word = wrong_axis(axis, names)
        if word is not None:
            raise NoSpace(place, word)
        name, members = axis
        names.append(name)
        many = many * len(members)
    if many > MOST_CELLS:
        raise NoSpace(-1, "cells")


def wrong_axis(axis, names):
    """Give the first word that is due for an axis behind axes of these names, or None."""
    if not is_sequence(axis) or len(axis) != 2:
        return "axis"
    name, members = axis
    if not is_name(name):
        return "name"
    if not is_sequence(members) or not 1 <= len(members) <= MOST_MEMBERS:
        return "members"
    if not all([is_name(member) for member in members]):
        return "member"
    if name in names or len(set(members)) < len(members):
        return "twice"
    return None


def cells_of(axes):
    """Give the tuple of all cells, the last axis changing fastest."""
    cells = [()]
    for name, members in axes:
        cells = [(*cell, member) for cell in cells for member in members]
    return tuple(cells)
