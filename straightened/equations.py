"""Equations of threads, and of their traces."""

from straightened.errors import TooMany
from straightened.laid import along_told
from straightened.lines import counted_degree, number_at
from straightened.polys import check_poly
from straightened.ratios import Ratio
from straightened.tables import poly_with_worths, shifted_determinant
from straightened.threads import told_thread
from straightened.walked import outer

MOST_EQUATION_DEGREE = 4


def equation(thread):
    """The Poly that is 0 at just the points of the thread, scaled."""
    first, second = told_thread(thread)
    across, upward = counted_degree(first), counted_degree(second)
    if max(across, upward) > MOST_EQUATION_DEGREE:
        raise TooMany("degree", MOST_EQUATION_DEGREE)
    # In x its degree is that of the second line at most, in y that of the first one.
    rows = []
    for x in range(upward + 1):
        rows.append([equation_worth(first, second, (x, y)) for y in range(across + 1)])
    found = poly_with_worths(rows)
    return found.scaled(Ratio(1).over(found.entries()[-1][2]))


def equation_worth(first, second, point):
    """What the table of two told lines has as determinant at the point."""
    return shifted_determinant(falling_less(first, point[0]), falling_less(second, point[1]))


def falling_less(line, number):
    """The numbers of the told line less the number, by falling powers; nought has one, too."""
    return line[:0:-1] + [number_at(line, 0) - number]


def is_on(poly, thread):
    """Whether the Poly's worth is 0 at each point of the thread."""
    check_poly(poly)
    return along_told(poly, told_thread(thread)) == []


def trace(thread):
    """The equation of the outer thread."""
    return equation(outer(thread))
