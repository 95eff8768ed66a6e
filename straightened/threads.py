"""Threads: two lines that tell a point for each number, led by steps and by changes."""

from straightened.changes import check_change
from straightened.errors import InvalidStep, InvalidThread, NoThread, TooMany
from straightened.lines import counted_degree, degree, is_line, minus, scaled, times, told, worth
from straightened.polys import MOST_DEGREE, refuse_poly_degree
from straightened.ratios import Ratio, as_ratio
from straightened.steps import is_step
from straightened.stops import is_list_of_steps


def is_thread(value):
    """Whether any value is a thread."""
    if not isinstance(value, tuple) or len(value) != 2 or not is_line(value[0]) or not is_line(value[1]):
        return False
    return 1 <= max(degree(value[0]), degree(value[1])) <= MOST_DEGREE


def told_thread(thread):
    """The tuple of both lines of the thread, told."""
    if not is_thread(thread):
        raise InvalidThread(thread)
    return told(thread[0]), told(thread[1])


def thread_at(thread, number):
    """The point at which the thread stands at the number."""
    first, second = told_thread(thread)
    time = as_ratio(number)
    return worth(first, time), worth(second, time)


def thread_taken(thread, step):
    """The thread with number times the other line to the power many taken from the line at the place."""
    lines = told_thread(thread)
    if not is_step(step):
        raise InvalidStep(step)
    place, number, many = step
    other = lines[1 - place]
    refuse_poly_degree(counted_degree(other) * many)
    left = minus(lines[place], scaled(line_power(other, many), number))
    return (left, other) if place == 0 else (other, left)


def line_power(line, many):
    """The product of so many of the line."""
    found = [Ratio(1)]
    for _ in range(many):
        found = times(found, line)
    return found


def thread_steps(thread):
    """The list of the own steps of the thread."""
    return thread_walked_down(thread)[0]


def thread_led(thread):
    """The thread that its own steps leave."""
    return thread_walked_down(thread)[1]


def thread_walked_down(thread):
    """The tuple of the own steps, and of the told thread that they leave."""
    steps, left = [], told_thread(thread)
    step = own_thread_step(left)
    while step is not None:
        steps.append(step)
        left = thread_taken(left, step)
        step = own_thread_step(left)
    return steps, left


def own_thread_step(lines):
    """The own step of the told thread; None if there is none."""
    return thread_step_at(lines, 0 if degree(lines[0]) >= degree(lines[1]) else 1)


def thread_step_at(lines, place):
    """The step at this place with which the degree there falls; None if there is none."""
    line, other = lines[place], lines[1 - place]
    if degree(other) < 1 or degree(line) % degree(other) != 0:
        return None
    many = degree(line) // degree(other)
    return place, line[-1].over(line_power(other, many)[-1]), many


def thread_stop(thread):
    """By what the thread stops; None if it is straightened."""
    return thread_stop_at_once(thread_led(thread))


def is_straightened(thread):
    """Whether own steps end at a line of degree 1 and one of a degree below 1."""
    return thread_stop(thread) is None


def thread_stop_at_once(lines):
    """The stop of the told thread as it stands; None if it is straight, or has an own step."""
    degrees = sorted([degree(lines[0]), degree(lines[1])])
    if degrees[0] < 1:
        return None if degrees[1] == 1 else "number"
    return "degrees" if degrees[1] % degrees[0] != 0 else None


def is_thread_steps(thread, value):
    """Whether any value is a list of steps behind which one line has the degree 1, and the other one one below."""
    left = thread_left_by(told_thread(thread), value)
    return left is not None and sorted([counted_degree(left[0]), counted_degree(left[1])]) == [0, 1]


def is_thread_stop(thread, value):
    """Whether any value is a tuple of steps behind which the thread stops, and its stop there."""
    lines = told_thread(thread)
    if not isinstance(value, tuple) or len(value) != 2 or not isinstance(value[1], str):
        return False
    left = thread_left_by(lines, value[0])
    return left is not None and thread_stop_at_once(left) == value[1]


def thread_left_by(lines, value):
    """What is left of the told thread by any value; None if that is no list of steps that can be taken."""
    if not is_list_of_steps(value):
        return None
    left = lines
    for step in value:
        try:
            left = thread_taken(left, step)
        except TooMany:
            return None
    return left


def changed_thread(change, thread):
    """The told thread to which the change leads the thread."""
    check_change(change)
    first, second = told_thread(thread)
    # Both halves are asked ahead of both lines, so the greater degree tells for both.
    refuse_poly_degree(max(change.degree, 0) * max(degree(first), degree(second)))
    lines = (change.first.along(first, second), change.second.along(first, second))
    if max(degree(lines[0]), degree(lines[1])) < 1:
        raise NoThread()
    return lines
