"""Partners of a half, and Polys that make 1 of what it is derived to."""

from straightened.changes import Change
from straightened.errors import InvalidPartner, TooMany
from straightened.halves import half_put, put_down
from straightened.heads import head, power_multiple
from straightened.lines import told
from straightened.polys import Poly, check_poly, power_of
from straightened.ratios import Ratio
from straightened.stops import can_be_undone
from straightened.straights import cross, linear_rows


def partner(poly):
    """A Poly that makes a change that can be undone, with the Poly ahead of it; None if there is none."""
    steps, left = put_down(poly)
    if left.degree != 1:
        return None
    found = Poly.x() if left.amount(1, 0).sign == 0 else Poly.y()
    for letter, number, many in steps[::-1]:
        found = half_put(found, (letter, -number, many))
    return found


def is_partner(poly, value):
    """Whether any value is a Poly that is a partner of the Poly."""
    check_poly(poly)
    return isinstance(value, Poly) and can_be_undone(Change(poly, value))


def partner_parts(poly, one, two):
    """The tuple (number, line) such that two is number times one, and the line with the Poly for t."""
    if not is_partner(poly, one):
        raise InvalidPartner(one)
    if not is_partner(poly, two):
        raise InvalidPartner(two)
    number = steady_number(poly, two).over(steady_number(poly, one))
    return number, line_through(two - one.scaled(number), poly)


def steady_number(poly, other):
    """The number that the jacobian of the Poly with its partner is, as it is at the point (0, 0)."""
    # The whole jacobian would be refused where both degrees together are above 20.
    return cross(linear_rows(Change(poly, other)))


def line_through(rest, poly):
    """The told line that comes to the first Poly with the other one, which is a half, for t."""
    numbers = [Ratio(0) for _ in range(max(rest.degree, 0) + 1)]
    while rest.degree > 0:
        many = rest.degree // poly.degree
        numbers[many] = power_multiple(head(rest), head(poly), many)
        rest = rest - power_of(poly, many).scaled(numbers[many])
    numbers[0] = rest.amount(0, 0)
    return told(numbers)


def unity(poly):
    """A unity of the Poly; None if it is no half."""
    other = partner(poly)
    if other is None:
        return None
    number = Ratio(1).over(steady_number(poly, other))
    return other.derived("y").scaled(number), other.derived("x").scaled(-number)


def is_unity(poly, value):
    """Whether any value is a unity of the Poly, the degrees of both products being at most 18."""
    check_poly(poly)
    if not isinstance(value, tuple) or len(value) != 2:
        return False
    if not isinstance(value[0], Poly) or not isinstance(value[1], Poly):
        return False
    try:
        return value[0] * poly.derived("x") + value[1] * poly.derived("y") == Poly.number(1)
    except TooMany:
        return False
