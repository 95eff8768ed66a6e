"""What undoes a change, and two points at which one is uneven."""

from straightened.changes import Change, check_change, is_point, jacobian, told_point
from straightened.errors import NotUndone
from straightened.polys import MOST_DEGREE
from straightened.ratios import Ratio
from straightened.steps import taken, walked_down
from straightened.straights import is_straight, undone_straight


def undone(change):
    """The change that undoes it."""
    steps, left = walked_to_straight(change)
    led_back = Change.same()
    for step in steps:
        led_back = taken(led_back, step)
    return undone_straight(left).behind(led_back)


def undone_at(change, point):
    """The point that the change leads to this one."""
    check_change(change)
    place = told_point(point)
    steps, left = walked_to_straight(change)
    for step in steps:
        place = point_taken(place, step)
    return undone_straight(left).at(place)


def walked_to_straight(change):
    """The tuple of the own steps of a change that can be undone, and of the straight one that they leave."""
    steps, left = walked_down(change)
    if not is_straight(left):
        raise NotUndone()
    return steps, left


def point_taken(point, step):
    """The point to which the step leads the told point."""
    place, number, many = step
    power = Ratio(1)
    for _ in range(many):
        power = power * point[1 - place]
    left = point[place] - number * power
    return (left, point[1]) if place == 0 else (point[0], left)


def uneven(change):
    """Two points at which the change's jacobian has unlike worths; None if it is a number."""
    worths = jacobian(change)
    if worths.degree < 1:
        return None
    start = worths.worth(0, 0)
    # A Poly with the same worth at all points of a square that is wider than its degree would be a number.
    for across in range(MOST_DEGREE + 1):
        for upward in range(MOST_DEGREE + 1):
            if worths.worth(across, upward) != start:
                return (Ratio(0), Ratio(0)), (Ratio(across), Ratio(upward))
    return None


def is_uneven(change, value):
    """Whether any value is a tuple of two points at which the change's jacobian has unlike worths."""
    worths = jacobian(change)
    if not isinstance(value, tuple) or len(value) != 2 or not is_point(value[0]) or not is_point(value[1]):
        return False
    (a, b), (c, d) = value
    return worths.worth(a, b) != worths.worth(c, d)
