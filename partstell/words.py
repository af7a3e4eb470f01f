"""What single words stand for, and the words for it."""

from partstell.checks import is_name
from partstell.errors import BadText, NoRatio
from partstell.kinds import LINEAR_KINDS, measure_of_kind
from partstell.ratios import Ratio, is_digits
from partstell.regions import Region


class Reader:
    """Takes words one after the other; the first one that does not fit is refused by its place."""

    def __init__(self, space, words, start):
        self.space = space
        self.words = words
        self.at = start

    def ahead(self):
        """Give the next word, or behind the last one the empty word, which never fits."""
        return self.words[self.at] if self.at < len(self.words) else ""

    def taken(self, worth):
        """Step behind the next word, which stands for this; None means that it does not fit."""
        if worth is None:
            raise BadText(self.at)
        self.at += 1
        return worth

    def take_one_of(self, words):
        """Take one of these words."""
        return self.taken(self.ahead() if self.ahead() in words else None)

    def take_name(self):
        """Take a NAME."""
        return self.taken(self.ahead() if is_name(self.ahead()) else None)

    def take_cell(self):
        """Take a cell word and give the cell."""
        return self.taken(cell_of(self.space, self.ahead()))

    def take_region(self):
        """Take a region word and give the region."""
        return self.taken(region_of(self.space, self.ahead()))

    def take_ratio(self):
        """Take a ratio word and give the Ratio."""
        return self.taken(ratio_of(self.ahead()))

    def take_integer(self, least, greatest):
        """Take an integer word within bounds and give the integer; the greatest may be None."""
        number = integer_of(self.ahead())
        if number is None or number < least or (greatest is not None and number > greatest):
            return self.taken(None)
        return self.taken(number)

    def take_linear(self):
        """Take a linear text and give the measure."""
        measure = measure_of_kind(LINEAR_KINDS[0], self.space.empty())
        if self.ahead() == "zero":
            return self.taken(measure)
        while True:
            ratio = self.take_ratio()
            kind = self.take_one_of(LINEAR_KINDS)
            measure = measure + measure_of_kind(kind, self.take_region()) * ratio
            if self.ahead() != "plus":
                return measure
            self.take_one_of(("plus",))

    def take_end(self):
        """Refuse a further word."""
        if self.at < len(self.words):
            raise BadText(self.at)


def integer_of(word):
    """Give the integer that an integer word stands for, or None."""
    digits = word.removeprefix("-")
    if not is_digits(digits) or (digits[0] == "0" and word != "0"):
        return None
    return int(word)


def ratio_of(word):
    """Give the Ratio that a ratio word stands for, or None."""
    try:
        return Ratio.read(word)
    except NoRatio:
        return None


def cell_of(space, word):
    """Give the cell that a cell word stands for, or None."""
    cell = tuple(word.split("."))
    return cell if cell in space.cells else None


def region_of(space, word):
    """Give the region that a region word stands for, or None."""
    if not word.startswith("[") or not word.endswith("]"):
        return None
    inside = word[1:-1]
    if inside == "":
        return space.empty()
    cells = [cell_of(space, each) for each in inside.split(",")]
    return None if None in cells else Region(space, cells)


def cell_word(cell):
    """Give the word for a cell."""
    return ".".join(cell)


def region_word(cells):
    """Give the word for a region of these cells."""
    inside = ",".join([cell_word(cell) for cell in cells])
    return f"[{inside}]"
