"""Fractions in lowest terms, reckoned exactly."""

from math import gcd

from straightened.basics import is_integer
from straightened.errors import DividedByZero, InvalidNumber


class Ratio:
    """A fraction in lowest terms, its bottom at least 1. It never changes."""

    def __init__(self, top, bottom=1):
        if not is_integer(top):
            raise InvalidNumber(top)
        if not is_integer(bottom) or bottom == 0:
            raise InvalidNumber(bottom)
        shared = gcd(top, bottom)
        if bottom < 0:
            shared = -shared
        self._top = top // shared
        self._bottom = bottom // shared

    @property
    def top(self):
        return self._top

    @property
    def bottom(self):
        return self._bottom

    @property
    def sign(self):
        """-1, 0 or 1."""
        if self._top == 0:
            return 0
        return 1 if self._top > 0 else -1

    @property
    def is_whole(self):
        return self._bottom == 1

    def __add__(self, other):
        other = as_ratio(other)
        top = self._top * other._bottom + other._top * self._bottom
        return Ratio(top, self._bottom * other._bottom)

    def __radd__(self, other):
        return as_ratio(other) + self

    def __sub__(self, other):
        other = as_ratio(other)
        top = self._top * other._bottom - other._top * self._bottom
        return Ratio(top, self._bottom * other._bottom)

    def __rsub__(self, other):
        return as_ratio(other) - self

    def __mul__(self, other):
        other = as_ratio(other)
        return Ratio(self._top * other._top, self._bottom * other._bottom)

    def __rmul__(self, other):
        return as_ratio(other) * self

    def __neg__(self):
        return Ratio(-self._top, self._bottom)

    def __eq__(self, other):
        return isinstance(other, Ratio) and self._top == other._top and self._bottom == other._bottom

    def __str__(self):
        if self._bottom == 1:
            return str(self._top)
        return f"{self._top}/{self._bottom}"

    def __repr__(self):
        return f"Ratio({self._top}, {self._bottom})"

    def over(self, other):
        """This number divided by the other one."""
        other = as_ratio(other)
        if other._top == 0:
            raise DividedByZero()
        return Ratio(self._top * other._bottom, self._bottom * other._top)

    def size(self):
        """This number without its sign."""
        return Ratio(abs(self._top), self._bottom)

    def is_below(self, other):
        """Whether it is less than the other one."""
        other = as_ratio(other)
        return self._top * other._bottom < other._top * self._bottom

    def is_at_most(self, other):
        """Whether it is not greater than the other one."""
        other = as_ratio(other)
        return self._top * other._bottom <= other._top * self._bottom

    @classmethod
    def total(cls, numbers):
        """The sum of a list of numbers."""
        if not isinstance(numbers, (list, tuple)):
            raise InvalidNumber(numbers)
        found = cls(0)
        for number in numbers:
            found = found + number
        return found


def is_number(value):
    """Whether any value is an INTEGER or a Ratio."""
    return isinstance(value, Ratio) or is_integer(value)


def as_ratio(number):
    """The number as a Ratio; what is no NUMBER is refused."""
    return number if isinstance(number, Ratio) else Ratio(number)
