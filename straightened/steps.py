"""Steps, and how a change is led by its own ones."""

from straightened.basics import is_integer
from straightened.changes import Change, check_change
from straightened.errors import InvalidStep
from straightened.heads import head, is_many, power_multiple
from straightened.polys import power_of, refuse_poly_degree
from straightened.ratios import as_ratio, is_number


def is_step(value):
    """Whether any value is a tuple (place, number, many)."""
    if not isinstance(value, tuple) or len(value) != 3:
        return False
    place, number, many = value
    if not is_integer(place) or place not in (0, 1) or not is_many(many):
        return False
    return is_number(number) and as_ratio(number).sign != 0


def taken(change, step):
    """The change with number times the other half to the power many taken from the half at the place."""
    check_change(change)
    if not is_step(step):
        raise InvalidStep(step)
    place, number, many = step
    half, other = halves_by(change, place)
    refuse_poly_degree(max(other.degree, 0) * many)
    left = half - power_of(other, many).scaled(number)
    return Change(left, other) if place == 0 else Change(other, left)


def own_steps(change):
    """The list of the own steps of the change."""
    return walked_down(change)[0]


def led(change):
    """The change that its own steps leave."""
    return walked_down(change)[1]


def walked_down(change):
    """The tuple of the own steps and of the change that they leave."""
    check_change(change)
    steps, left = [], change
    step = own_step(left)
    while step is not None:
        steps.append(step)
        left = taken(left, step)
        step = own_step(left)
    return steps, left


def own_step(change):
    """The own step of the change, told; None if there is none."""
    if change.degree < 2:
        return None
    place = place_to_lead(change)
    half, other = halves_by(change, place)
    if other.degree < 1 or half.degree % other.degree != 0:
        return None
    many = half.degree // other.degree
    number = power_multiple(head(half), head(other), many)
    return None if number is None else (place, number, many)


def place_to_lead(change):
    """The place of the half that is to be led: the first one if both degrees are alike."""
    return 0 if change.first.degree >= change.second.degree else 1


def halves_by(change, place):
    """The half at the place, and the other one."""
    if place == 0:
        return change.first, change.second
    return change.second, change.first
