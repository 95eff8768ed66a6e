"""Heads and edges of Polys, and of what other Polys they are multiples."""

from straightened.basics import is_count
from straightened.errors import InvalidMany, NoughtPoly
from straightened.polys import Poly, check_poly, power_of
from straightened.ratios import Ratio

MOST_MANY = 18


def is_many(value):
    """Whether any value is an INTEGER from 1 to 18, as powers and steps have it."""
    return is_count(value) and 1 <= value <= MOST_MANY


def check_weight(value):
    """Refuse what is no INTEGER above 0."""
    if not is_count(value) or value == 0:
        raise InvalidMany(value)


def head(poly):
    """The Poly of the products of the greatest degree."""
    return edge(poly, 1, 1)


def degree_by(poly, first, second):
    """The degree of the Poly by these weights."""
    check_poly(poly)
    check_weight(first)
    check_weight(second)
    return max([first * i + second * j for i, j, _ in poly.entries()], default=-1)


def edge(poly, first, second):
    """The Poly of the products that have the degree by these weights."""
    most = degree_by(poly, first, second)
    return Poly([(i, j, amount) for i, j, amount in poly.entries() if first * i + second * j == most])


def multiple(poly, other):
    """The number by which the Poly is a multiple of the other one; None if it is none."""
    check_poly(poly)
    check_poly(other)
    if other.is_nought:
        raise NoughtPoly()
    i, j, amount = other.entries()[0]
    number = poly.amount(i, j).over(amount)
    return number if other.scaled(number) == poly else None


def power_multiple(poly, other, many):
    """The number by which the Poly is a multiple of so many of the other one; None if it is none."""
    check_poly(poly)
    check_poly(other)
    if not is_many(many):
        raise InvalidMany(many)
    if other.is_nought:
        raise NoughtPoly()
    if poly.is_nought:
        return Ratio(0)
    # Of unlike degrees there is no multiple, so no power above all Polys' degrees is ever made.
    if poly.degree != other.degree * many:
        return None
    return multiple(poly, power_of(other, many))


def straight_root(poly):
    """The tuple (number, direction) of its straight root; None if it has none."""
    check_poly(poly)
    if poly.degree < 1:
        return None
    number = multiple(poly, power_of(Poly.x(), poly.degree))
    if number is not None:
        return number, (Ratio(0), Ratio(1))
    number = poly.amount(0, poly.degree)
    if number.sign == 0:
        return None
    # Of (y - r x) ** d the number before x y ** (d - 1) is -r d.
    slope = -poly.amount(1, poly.degree - 1).over(number * poly.degree)
    root = Poly.y() - Poly.x().scaled(slope)
    return (number, (Ratio(1), slope)) if power_of(root, poly.degree).scaled(number) == poly else None
