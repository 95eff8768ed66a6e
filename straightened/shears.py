"""Directions, their levels, and shears along them."""

from straightened.changes import Change, check_change, is_point, told_point
from straightened.errors import InvalidDirection, InvalidPoint
from straightened.lines import counted_degree, is_line, told
from straightened.polys import MOST_DEGREE, Poly, poly_in_line, refuse_poly_degree
from straightened.ratios import Ratio
from straightened.straights import check_straight, linear_rows


def is_direction(value):
    """Whether any value is a tuple (0, 1), or (1, r)."""
    if not is_point(value):
        return False
    ahead, behind = told_point(value)
    return ahead == Ratio(1) or (ahead == Ratio(0) and behind == Ratio(1))


def is_shear(value):
    """Whether any value is a tuple (direction, line), the line of degree 2 to 18 from c2 on."""
    if not isinstance(value, tuple) or len(value) != 2:
        return False
    if not is_direction(value[0]) or not is_line(value[1]):
        return False
    numbers = told(value[1])
    if len(numbers) < 3 or len(numbers) > MOST_DEGREE + 1:
        return False
    return numbers[0].sign == 0 and numbers[1].sign == 0


def told_direction(direction):
    """The direction as a tuple of two Ratios."""
    if not is_direction(direction):
        raise InvalidDirection(direction)
    return told_point(direction)


def told_shear(value):
    """The shear with its direction and its line told."""
    return told_direction(value[0]), told(value[1])


def level(direction):
    """The level of the direction: x, or y - r x."""
    ahead, behind = told_direction(direction)
    if ahead.sign == 0:
        return Poly.x()
    return Poly.y() - Poly.x().scaled(behind)


def level_at(direction, point):
    """What the level of the told direction is worth at the told point."""
    if direction[0].sign == 0:
        return point[0]
    return point[1] - direction[1] * point[0]


def direction_of(point):
    """The direction of which the point is a multiple."""
    ahead, behind = told_point(point)
    if ahead.sign != 0:
        return Ratio(1), behind.over(ahead)
    if behind.sign == 0:
        raise InvalidPoint(point)
    return Ratio(0), Ratio(1)


def led_direction(change, direction):
    """The direction to which the straight change leads the direction."""
    check_change(change)
    ahead, behind = told_direction(direction)
    check_straight(change)
    rows = linear_rows(change)
    return direction_of((rows[0][0] * ahead + rows[0][1] * behind, rows[1][0] * ahead + rows[1][1] * behind))


def keeps(change, direction):
    """Whether the straight change leads the direction to itself."""
    return led_direction(change, direction) == told_direction(direction)


def shear(direction, line):
    """The change that leads a point v to v + f(l) u: u the direction, f the line, l the level at v."""
    ahead, behind = told_direction(direction)
    numbers = told(line)
    refuse_poly_degree(counted_degree(numbers))
    moved = poly_in_line(numbers, level(direction))
    return Change(Poly.x() + moved.scaled(ahead), Poly.y() + moved.scaled(behind))
