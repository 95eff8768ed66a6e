"""Changes that make a thread straight again, and Polys that tell a point's number back."""

from math import lcm

from straightened.changes import Change
from straightened.lines import added, degree, number_at, trimmed
from straightened.polys import Poly, rows_of
from straightened.ratios import Ratio
from straightened.steps import taken
from straightened.stops import can_be_undone
from straightened.straights import straight
from straightened.threads import thread_step_at, thread_stop_at_once, thread_taken, told_thread
from straightened.undoing import undone


def straightener(thread):
    """A change that can be undone and leads the thread to (t, 0); None if there is none."""
    steps, left = steps_to_straight(told_thread(thread))
    if thread_stop_at_once(left) is not None:
        return None
    change = Change.same()
    for step in steps:
        change = taken(change, step)
    return straight_to_start(left).behind(change)


def steps_to_straight(lines):
    """The tuple of steps that make the told thread straight, if any do, and of what they leave."""
    steps, left, step = [], lines, thread_step_at(lines, place_led_on(lines, 0))
    while step is not None:
        steps.append(step)
        left = thread_taken(left, step)
        step = thread_step_at(left, place_led_on(left, step[0]))
    return steps, left


def place_led_on(lines, last):
    """The place of the line of the greater degree; if they are alike, the one that was led last."""
    # Own steps would lead the first line then, and what undoes them is told by numbers that grow far longer.
    one, two = degree(lines[0]), degree(lines[1])
    if one == two:
        return last
    return 0 if one > two else 1


def straight_to_start(lines):
    """The straight change that leads the told thread, of the degrees 1 and below 1, to (t, 0)."""
    place = 0 if degree(lines[0]) == 1 else 1
    start, slope = lines[place]
    other = number_at(lines[1 - place], 0)
    row = [Ratio(1).over(slope), 0]
    rows = [row, [0, 1]] if place == 0 else [row[::-1], [1, 0]]
    return straight(rows, (-start.over(slope), -other))


def is_straightener(thread, value):
    """Whether any value is a change that can be undone and leads the thread to (t, 0)."""
    lines = told_thread(thread)
    if not isinstance(value, Change) or not can_be_undone(value):
        return False
    # What undoes it is of no greater degree than a Change has; the thread along the change may be.
    bent = undone(value)
    return line_without_y(bent.first) == lines[0] and line_without_y(bent.second) == lines[1]


def line_without_y(poly):
    """The told line to which the Poly comes along (t, 0)."""
    return added([poly.amount(power, 0) for power in range(poly.degree_in("x") + 1)], [])


def back(thread):
    """A Poly whose worth at each point of the thread is this point's number; None if there is none."""
    change = straightener(thread)
    return None if change is None else change.first


def is_back(thread, value):
    """Whether any value is a Poly whose worth at each point of the thread is this point's number."""
    lines = told_thread(thread)
    return isinstance(value, Poly) and along_told(value, lines) == [Ratio(0), Ratio(1)]


def along_told(poly, lines):
    """What the Poly comes to along both lines of a told thread, of whatever degree that is."""
    first, second = whole_numbers(lines[0]), whole_numbers(lines[1])
    rows = rows_of(poly)
    amounts = whole_numbers([number for row in rows for number in row])[1]
    powers = whole_powers(second, poly.degree_in("y"))
    # Whole numbers over one bottom are reckoned by far sooner than fractions in lowest terms.
    found, bottom = [], 1
    for row in rows[::-1]:
        found = whole_times(found, first[0])
        for power, number in enumerate(row):
            factor = (number * amounts).top * bottom
            found = whole_sum(found, whole_times(powers[power], [factor]))
        bottom = bottom * first[1]
    whole = amounts * bottom_power(first[1], len(rows) - 1) * bottom_power(second[1], len(powers) - 1)
    return trimmed([Ratio(number, whole) for number in found])


def whole_numbers(line):
    """The tuple of the INTEGERS that the told line has above one bottom for all, and of this bottom."""
    bottom = 1
    for number in line:
        bottom = lcm(bottom, number.bottom)
    return [(number * bottom).top for number in line], bottom


def whole_powers(line, most):
    """The powers 0 to most of the line that whole_numbers tells, all above its bottom to the power most."""
    numbers, bottom = line
    found = [[1]]
    for _ in range(most):
        found = [whole_times(one, [bottom]) for one in found] + [whole_times(found[-1], numbers)]
    return found


def bottom_power(bottom, many):
    """The product of so many of the bottom."""
    found = 1
    for _ in range(many):
        found = found * bottom
    return found


def whole_sum(ahead, behind):
    """The sum of two lists of INTEGERS, place by place."""
    longer, shorter = (ahead, behind) if len(ahead) >= len(behind) else (behind, ahead)
    found = [longer[at] + number for at, number in enumerate(shorter)]
    return found + longer[len(shorter):]


def whole_times(ahead, behind):
    """The product of two lines of INTEGERS, perhaps with noughts at its end."""
    found = [0 for _ in range(len(ahead) + len(behind) - 1)]
    for power, number in enumerate(ahead):
        for more, other in enumerate(behind):
            found[power + more] = found[power + more] + number * other
    return found
