"""Whether a change can be undone, the stop of one that cannot be, and what shows the one or the other."""

from straightened.changes import check_change
from straightened.errors import TooMany
from straightened.steps import halves_by, is_step, led, own_step, place_to_lead, taken
from straightened.straights import is_straight

MOST_STEPS = 60


def stop(change):
    """The stop of what the change is led to; None if that is straight."""
    return stop_at_once(led(change))


def can_be_undone(change):
    """Whether another change undoes it."""
    return stop(change) is None


def is_steps(change, value):
    """Whether any value is a list of steps that lead the change to a straight one."""
    check_change(change)
    left = left_by(change, value)
    return left is not None and is_straight(left)


def is_stop(change, value):
    """Whether any value is a tuple of steps that lead the change to a stuck one, and the stop of this one."""
    check_change(change)
    if not isinstance(value, tuple) or len(value) != 2 or not isinstance(value[1], str):
        return False
    left = left_by(change, value[0])
    return left is not None and stop_at_once(left) == value[1]


def stop_at_once(change):
    """The stop of the change if it is stuck; None if it is straight, or has an own step."""
    if change.degree < 2:
        return None if is_straight(change) else "flat"
    half, other = halves_by(change, place_to_lead(change))
    if other.degree < 1:
        return "number"
    if half.degree % other.degree != 0:
        return "degrees"
    return "heads" if own_step(change) is None else None


def left_by(change, value):
    """What is left of the change by any value; None if that is no list of steps that can be taken from it."""
    if not is_list_of_steps(value):
        return None
    if change.degree < 1:
        # Steps leave two numbers of two numbers, but these would grow beyond all bounds.
        return change
    left = change
    for step in value:
        try:
            left = taken(left, step)
        except TooMany:
            return None
    return left


def is_list_of_steps(value):
    """Whether any value is a list of at most 60 steps."""
    if not isinstance(value, (list, tuple)) or len(value) > MOST_STEPS:
        return False
    return all([is_step(step) for step in value])
