"""Sets of cells of a space."""

from partstell.checks import ask_same_space
from partstell.errors import Twice


class Region:
    """A set of cells; the field `cells` holds them ascending by place."""

    def __init__(self, space, cells):
        places = {space.place_of(cell): True for cell in cells}
        self.space = space
        self.cells = tuple([cell for place, cell in enumerate(space.cells) if place in places])

    def __eq__(self, other):
        return isinstance(other, Region) and self.space == other.space and self.cells == other.cells

    def __len__(self):
        return len(self.cells)

    def __contains__(self, x):
        return x in self.cells

    def __and__(self, other):
        ask_same_space(self, other)
        return Region(self.space, [cell for cell in self.cells if cell in other.cells])

    def __or__(self, other):
        ask_same_space(self, other)
        return Region(self.space, self.cells + other.cells)

    def __sub__(self, other):
        ask_same_space(self, other)
        return Region(self.space, [cell for cell in self.cells if cell not in other.cells])

    def __xor__(self, other):
        return (self - other) | (other - self)

    def __invert__(self):
        return Region(self.space, [cell for cell in self.space.cells if cell not in self.cells])

    def __le__(self, other):
        ask_same_space(self, other)
        return all([cell in other.cells for cell in self.cells])

    def __lt__(self, other):
        return self <= other and self.cells != other.cells

    def __ge__(self, other):
        return other <= self

    def __gt__(self, other):
        return other < self

    def groups(self, axes):
        """Give the list of the groups of cells that are alike on the named axes."""
        places = self.places_of_axes(axes)
        found = {}
        for cell in self.cells:
            key = tuple([cell[place] for place in places])
            if key not in found:
                found[key] = []
            found[key].append(cell)
        return [Region(self.space, cells) for cells in found.values()]

    def places_of_axes(self, axes):
        """Give the places of the named axes, none of which may be named twice."""
        places = []
        for axis in axes:
            place = self.space.place_of_axis(axis)
            if place in places:
                raise Twice(axis)
            places.append(place)
        return places
