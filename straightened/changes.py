"""Changes: two Polys that lead each point to a point."""

from straightened.errors import InvalidChange, InvalidPoint
from straightened.polys import Poly, check_poly
from straightened.ratios import as_ratio, is_number


class Change:
    """Leads a point to the point of its two halves' worths there. It never changes."""

    def __init__(self, first, second):
        check_poly(first)
        check_poly(second)
        self._first = first
        self._second = second

    @property
    def first(self):
        return self._first

    @property
    def second(self):
        return self._second

    @property
    def degree(self):
        """The greater degree of both halves."""
        return max(self._first.degree, self._second.degree)

    def behind(self, other):
        """The change that does the other one first, and then this one."""
        check_change(other)
        first = self._first.put(other.first, other.second)
        return Change(first, self._second.put(other.first, other.second))

    def at(self, point):
        """The point to which it leads the point."""
        across, upward = told_point(point)
        return self._first.worth(across, upward), self._second.worth(across, upward)

    def __eq__(self, other):
        return isinstance(other, Change) and self._first == other._first and self._second == other._second

    def __repr__(self):
        return f"Change({self._first!r}, {self._second!r})"

    @classmethod
    def same(cls):
        """The change (x, y), which leads each point to itself."""
        return cls(Poly.x(), Poly.y())


def is_point(value):
    """Whether any value is a tuple of two NUMBERS."""
    return isinstance(value, tuple) and len(value) == 2 and is_number(value[0]) and is_number(value[1])


def check_change(value):
    """Refuse what is no Change."""
    if not isinstance(value, Change):
        raise InvalidChange(value)


def told_point(point):
    """The point as a tuple of two Ratios."""
    if not is_point(point):
        raise InvalidPoint(point)
    return as_ratio(point[0]), as_ratio(point[1])


def jacobian(change):
    """The Poly p_x q_y - p_y q_x of the halves p and q."""
    check_change(change)
    first, second = change.first, change.second
    falling = first.derived("x") * second.derived("y")
    return falling - first.derived("y") * second.derived("x")
