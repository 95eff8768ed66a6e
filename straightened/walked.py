"""Lines through other ones, and how often a thread is walked."""

from math import gcd

from straightened.errors import InvalidLine
from straightened.lines import degree, is_line, number_at, parted, told
from straightened.ratios import Ratio
from straightened.threads import line_power, told_thread


def through(line, other):
    """The told line that is the first one with the other one put for t; None if there is none."""
    numbers, put = told(line), told(other)
    if len(put) < 2:
        raise InvalidLine(other)
    return through_told(numbers, put)


def through_told(numbers, put):
    """As through, of told lines, the second one of degree 1 or more."""
    found, left = [], numbers
    while left:
        left, rest = parted(left, put)
        if len(rest) > 1:
            return None
        found.append(number_at(rest, 0))
    return found


def inner(thread):
    """The line of the greatest degree through which both go, its last number 1 and its c0 0."""
    bent = [line for line in told_thread(thread) if len(line) > 1]
    # Through what a line goes has a degree that divides that of the line.
    most = gcd(degree(bent[0]), degree(bent[-1]))
    for wide in range(most, 1, -1):
        if most % wide == 0:
            found = root_line(bent[0], wide)
            if goes_through(bent, found):
                return found
    return [Ratio(0), Ratio(1)]


def root_line(line, wide):
    """The only line of the degree wide, its last number 1 and its c0 0, through which the told line can go."""
    many = degree(line) // wide
    found = [Ratio(0) for _ in range(wide)] + [Ratio(1)]
    # If it goes through it, both have alike numbers ahead, in the line divided by its last number and in
    # the power, down to the degree of the line less wide: each tells the next number.
    for power in range(wide - 1, 0, -1):
        place = degree(line) - wide + power
        lack = line[place].over(line[-1]) - line_power(found, many)[place]
        found[power] = lack.over(many)
    return found


def goes_through(lines, put):
    """Whether all of the told lines go through this one."""
    return all([through_told(line, put) is not None for line in lines])


def outer(thread):
    """The told thread that is the thread with the inner line taken out of both lines."""
    first, second = told_thread(thread)
    put = inner(thread)
    return through_told(first, put), through_told(second, put)


def walked(thread):
    """How often the thread goes over its trace."""
    return degree(inner(thread))


def is_through(thread, value):
    """Whether any value is a line of degree 1 or more through which both lines of the thread go."""
    lines = told_thread(thread)
    return is_line(value) and degree(value) >= 1 and goes_through(lines, told(value))
