"""Crossings: where a thread stands twice at one point, or stands still."""

from math import gcd

from straightened.basics import is_count
from straightened.changes import is_point, told_point
from straightened.errors import InvalidMany, NotApart, TooMany
from straightened.lines import degree, derived, told, worth
from straightened.polys import Poly, refuse_poly_degree
from straightened.ratios import Ratio
from straightened.tables import line_with_worths, shifted_determinant
from straightened.threads import thread_at, told_thread

MOST_CROSSED_DEGREE = 6
MOST_SUM = 60


def quotient(line):
    """The Poly that is (f(x) - f(y)) / (x - y) for the line f."""
    numbers = told(line)
    refuse_poly_degree(len(numbers) - 2)
    found = []
    for power, number in enumerate(numbers):
        if number.sign != 0:
            found = found + [(i, power - 1 - i, number) for i in range(power)]
    return Poly(found)


def crossing_line(thread):
    """The line whose roots are the numbers at which the thread crosses."""
    first, second = told_thread(thread)
    refuse_crossed((first, second))
    if degree(first) < 1 or degree(second) < 1:
        return [Ratio(1)] if degree(first) == 1 or degree(second) == 1 else []
    # The determinant's degree is the product of both quotients' degrees at most.
    many = (degree(first) - 1) * (degree(second) - 1) + 1
    return line_with_worths([crossing_worth(first, second, Ratio(number)) for number in range(many)])


def refuse_crossed(lines):
    """Refuse a told thread whose degrees are too great for a crossing line."""
    if max(degree(lines[0]), degree(lines[1])) > MOST_CROSSED_DEGREE:
        raise TooMany("degree", MOST_CROSSED_DEGREE)


def crossing_worth(first, second, number):
    """What the crossing line of two told lines, both of degree 1 or more, is worth at the number."""
    return shifted_determinant(quotient_numbers(first, number), quotient_numbers(second, number))


def quotient_numbers(line, number):
    """The numbers of the told line's quotient, by falling powers of s, with this number for t."""
    found = []
    for one in line[:0:-1]:
        found.append(found[-1] * number + one if found else one)
    return found


def is_crossing(thread, value):
    """Whether any value is a tuple of two numbers at which the thread crosses."""
    first, second = told_thread(thread)
    if not is_point(value):
        return False
    one, two = told_point(value)
    if one != two:
        return thread_at(thread, one) == thread_at(thread, two)
    return worth(derived(first), one).sign == 0 and worth(derived(second), one).sign == 0


def sum_degrees(thread, many):
    """The rising list of the degrees, up to many, that Polys can have along the thread."""
    first, second = told_thread(thread)
    if not is_count(many) or many > MOST_SUM:
        raise InvalidMany(many)
    one, two = degree(first), degree(second)
    if one < 1 or two < 1 or gcd(one, two) > 1:
        raise NotApart()
    return [count for count in range(many + 1) if is_sum(count, one, two)]


def is_sum(count, one, two):
    """Whether the count is so many times one, and so many times two, added."""
    return any([(count - part) % two == 0 for part in range(0, count + 1, one)])
