"""Integers, numbers and names, and the rational numbers of the package."""

from math import gcd

from calledmidway.errors import DividedByZero, InvalidNumber

LONGEST_NAME = 8


def is_integer(value):
    """Tell whether any value is an INTEGER."""
    return isinstance(value, int) and not isinstance(value, bool)


def is_number(value):
    """Tell whether any value is a NUMBER."""
    return isinstance(value, Ratio) or is_integer(value)


def is_name(value):
    """Tell whether any value is a NAME."""
    if not isinstance(value, str) or len(value) > LONGEST_NAME:
        return False
    # Letters of other alphabets are letters in lower case, too.
    return value.isascii() and value.isalpha() and value.islower()


def as_ratio(value):
    """Return the Ratio that a NUMBER is; InvalidNumber for any other value."""
    if isinstance(value, Ratio):
        return value
    return Ratio(value)


def greatest_of(numbers):
    """Return the greatest one of a list of Ratios."""
    best = numbers[0]
    for number in numbers:
        if best.is_below(number):
            best = number
    return best


class Ratio:
    """A rational number in lowest terms, with a bottom that is at least 1."""

    def __init__(self, top, bottom=1):
        if not is_integer(top):
            raise InvalidNumber(top)
        if not is_integer(bottom) or bottom == 0:
            raise InvalidNumber(bottom)
        shared = gcd(top, bottom)
        if bottom < 0:
            shared = -shared
        self._top = top // shared
        self._bottom = bottom // shared

    @property
    def top(self):
        """The integer above the line."""
        return self._top

    @property
    def bottom(self):
        """The integer below the line."""
        return self._bottom

    @property
    def sign(self):
        """-1 below 0, 0 at 0, 1 above 0."""
        if self._top == 0:
            return 0
        return 1 if self._top > 0 else -1

    def __add__(self, other):
        more = as_ratio(other)
        return Ratio(self._top * more.bottom + more.top * self._bottom, self._bottom * more.bottom)

    def __radd__(self, other):
        if not is_integer(other):
            return NotImplemented
        return self + other

    def __sub__(self, other):
        return self + -as_ratio(other)

    def __rsub__(self, other):
        if not is_integer(other):
            return NotImplemented
        return -self + other

    def __mul__(self, other):
        times = as_ratio(other)
        return Ratio(self._top * times.top, self._bottom * times.bottom)

    def __rmul__(self, other):
        if not is_integer(other):
            return NotImplemented
        return self * other

    def __neg__(self):
        return Ratio(-self._top, self._bottom)

    def over(self, other):
        """Return this number divided by a NUMBER."""
        divisor = as_ratio(other)
        if divisor.top == 0:
            raise DividedByZero()
        return Ratio(self._top * divisor.bottom, self._bottom * divisor.top)

    def is_below(self, other):
        """Tell whether this number is less than a NUMBER."""
        bound = as_ratio(other)
        return self._top * bound.bottom < bound.top * self._bottom

    @classmethod
    def total(cls, *numbers):
        """Return the sum of NUMBERS."""
        found = Ratio(0)
        for number in numbers:
            found = found + number
        return found

    def __eq__(self, other):
        return isinstance(other, Ratio) and self._top == other._top and self._bottom == other._bottom

    def __str__(self):
        if self._bottom == 1:
            return str(self._top)
        return f"{self._top}/{self._bottom}"

    def __repr__(self):
        return f"Ratio({self._top}, {self._bottom})"
