"""Exact fractions in lowest terms."""

from partstell.checks import DIGITS, is_integer
from partstell.errors import NoRatio

MOST_POWER = 20
MOST_DIGITS = 60


class Ratio:
    """A fraction in lowest terms; its bottom is at least 1."""

    # `over` and `power` rely on this to refuse a bottom of 0: they come here with
    # one for a quotient by 0, and for a power of 0 with an exponent below 0.
    def __init__(self, top, bottom=1):
        if not is_integer(top):
            raise NoRatio("top")
        if not is_integer(bottom):
            raise NoRatio("bottom")
        if bottom == 0:
            raise NoRatio("zero")
        shared = common_divisor(top, bottom)
        if bottom < 0:
            shared = -shared
        self.top = top // shared
        self.bottom = bottom // shared

    def __add__(self, other):
        if not is_operand(other):
            return NotImplemented
        more = as_ratio(other)
        return Ratio(self.top * more.bottom + more.top * self.bottom, self.bottom * more.bottom)

    def __radd__(self, other):
        return self + other

    def __sub__(self, other):
        if not is_operand(other):
            return NotImplemented
        less = as_ratio(other)
        return Ratio(self.top * less.bottom - less.top * self.bottom, self.bottom * less.bottom)

    def __rsub__(self, other):
        return -self + other

    def __mul__(self, other):
        if not is_operand(other):
            return NotImplemented
        factor = as_ratio(other)
        return Ratio(self.top * factor.top, self.bottom * factor.bottom)

    def __rmul__(self, other):
        return self * other

    def __floordiv__(self, other):
        if not is_operand(other):
            return NotImplemented
        divisor = as_ratio(other)
        if divisor.top == 0:
            raise NoRatio("zero")
        return self.top * divisor.bottom // (self.bottom * divisor.top)

    def __rfloordiv__(self, other):
        if not is_operand(other):
            return NotImplemented
        return as_ratio(other) // self

    def __mod__(self, other):
        if not is_operand(other):
            return NotImplemented
        return self - other * (self // other)

    def __rmod__(self, other):
        if not is_operand(other):
            return NotImplemented
        return as_ratio(other) % self

    def __neg__(self):
        return Ratio(-self.top, self.bottom)

    def __pos__(self):
        return Ratio(self.top, self.bottom)

    def __abs__(self):
        return Ratio(abs(self.top), self.bottom)

    def __pow__(self, other):
        return self.power(other)

    def __eq__(self, other):
        if isinstance(other, Ratio):
            return self.top == other.top and self.bottom == other.bottom
        return is_integer(other) and self.bottom == 1 and self.top == other

    def __lt__(self, other):
        if not is_operand(other):
            return NotImplemented
        right = as_ratio(other)
        return self.top * right.bottom < right.top * self.bottom

    def __le__(self, other):
        if not is_operand(other):
            return NotImplemented
        right = as_ratio(other)
        return self.top * right.bottom <= right.top * self.bottom

    def __gt__(self, other):
        if not is_operand(other):
            return NotImplemented
        return as_ratio(other) < self

    def __ge__(self, other):
        if not is_operand(other):
            return NotImplemented
        return as_ratio(other) <= self

    def over(self, number):
        """Give the exact quotient by a Ratio or an integer."""
        divisor = as_ratio(number)
        return Ratio(self.top * divisor.bottom, self.bottom * divisor.top)

    def power(self, k):
        """Give the power with an exponent from -20 to 20."""
        if not is_integer(k) or not -MOST_POWER <= k <= MOST_POWER:
            raise NoRatio("power")
        if k >= 0:
            return Ratio(multiplied(self.top, k), multiplied(self.bottom, k))
        return Ratio(multiplied(self.bottom, -k), multiplied(self.top, -k))

    def text(self):
        """Give the digits, with a slash in between if the bottom is not 1."""
        if self.bottom == 1:
            return str(self.top)
        return f"{self.top}/{self.bottom}"

    @staticmethod
    def read(text):
        """Give the Ratio of which this is the text."""
        if not isinstance(text, str):
            raise NoRatio("text")
        top, slash, bottom = text.partition("/")
        if slash == "":
            bottom = "1"
        # "-0", "2/4" and "1/0" have the right characters: the first two differ
        # from the text of what they make, the last one makes nothing.
        if not is_digits(top.removeprefix("-")) or not is_digits(bottom) or bottom[0] == "0":
            raise NoRatio("text")
        found = Ratio(int(top), int(bottom))
        if found.text() != text:
            raise NoRatio("text")
        return found


def is_operand(thing):
    """Tell whether something may stand beside a Ratio in arithmetic."""
    return isinstance(thing, Ratio) or is_integer(thing)


def as_ratio(number):
    """Give the Ratio that a Ratio or an integer counts as."""
    if isinstance(number, Ratio):
        return number
    return Ratio(number)


def common_divisor(one, other):
    """Give the greatest common divisor of two integers, or 0 if both are 0."""
    while other != 0:
        one, other = other, one % other
    return abs(one)


def multiplied(number, times):
    """Give the product of so many factors, each of which is the integer."""
    product = 1
    for step in range(times):
        product = product * number
    return product


def is_digits(text):
    """Tell whether a string is a run of digits that is short enough to be read."""
    return 1 <= len(text) <= MOST_DIGITS and all([sign in DIGITS for sign in text])
