"""Edges of Polys that are powers of one binomial, and half steps."""

from straightened.heads import edge, is_many, multiple
from straightened.polys import Poly, check_letter, check_poly, power_of
from straightened.ratios import as_ratio, is_number


def binomial_edge(poly, letter):
    """The tuple (c, m, k) of the Poly's binomial edge for the letter; None if it has none."""
    check_poly(poly)
    check_letter(letter)
    return edge_for_y(poly if letter == "y" else exchanged(poly))


def edge_for_y(poly):
    """The tuple (c, m, k) with the edge c (y + m x ** k) ** b; None if it is none such."""
    wide, high = poly.degree_in("x"), poly.degree_in("y")
    if wide < 1 or high < 1 or wide % high != 0:
        return None
    many = wide // high
    number = poly.amount(0, high)
    if number.sign == 0:
        return None
    # Of c (y + m x ** k) ** b the number before x ** k y ** (b - 1) is c m b.
    slope = poly.amount(many, high - 1).over(number * high)
    if slope.sign == 0:
        return None
    binomial = Poly([(0, 1, 1), (many, 0, slope)])
    found = multiple(edge(poly, 1, many), power_of(binomial, high))
    return None if found is None else (found, slope, many)


def exchanged(poly):
    """The Poly with x in the place of y, and y in the place of x."""
    return Poly([(j, i, amount) for i, j, amount in poly.entries()])


def is_half_step(value):
    """Whether any value is a tuple (letter, number, many)."""
    if not isinstance(value, tuple) or len(value) != 3:
        return False
    letter, number, many = value
    if not isinstance(letter, str) or letter not in ("x", "y") or not is_many(many):
        return False
    return is_number(number) and as_ratio(number).sign != 0
