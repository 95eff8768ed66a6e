"""Half steps put in Polys, and whether a Poly is half of a change that can be undone."""

from straightened.edges import binomial_edge, exchanged, is_half_step
from straightened.errors import InvalidStep, TooMany
from straightened.heads import degree_by
from straightened.polys import Poly, check_poly, poly_in_line, refuse_poly_degree, rows_of
from straightened.stops import MOST_STEPS


def half_put(poly, step):
    """The Poly with less than the one letter, by the step, in the place of this letter."""
    check_poly(poly)
    if not is_half_step(step):
        raise InvalidStep(step)
    letter, number, many = step
    if letter == "x":
        return exchanged(put_for_y(exchanged(poly), number, many))
    return put_for_y(poly, number, many)


def put_for_y(poly, number, many):
    """The Poly with y - number * x ** many in the place of y."""
    refuse_poly_degree(degree_by(poly, 1, many))
    binomial = Poly.y() - Poly([(many, 0, number)])
    found = Poly()
    for line in rows_of(poly)[::-1]:
        found = found * Poly.x() + poly_in_line(line, binomial)
    return found


def own_half_steps(poly):
    """The list of the own half steps of the Poly."""
    return put_down(poly)[0]


def half_led(poly):
    """The Poly behind its own half steps."""
    return put_down(poly)[1]


def put_down(poly):
    """The tuple of the own half steps, and of the Poly behind them."""
    check_poly(poly)
    steps, left = [], poly
    step = own_half_step(left)
    while step is not None:
        steps.append(step)
        left = half_put(left, step)
        step = own_half_step(left)
    return steps, left


def own_half_step(poly):
    """The own half step of the Poly; None if there is none."""
    if poly.degree < 2:
        return None
    letter = "y" if poly.degree_in("x") >= poly.degree_in("y") else "x"
    found = binomial_edge(poly, letter)
    return None if found is None else (letter, found[1], found[2])


def half_stop(poly):
    """The stop of what the Poly is led to; None if the Poly is a half."""
    return half_stop_at_once(half_led(poly))


def is_half(poly):
    """Whether some Poly beside it makes a change that can be undone."""
    return half_stop(poly) is None


def half_stop_at_once(poly):
    """The stop of the Poly as it stands; None if its degree is 1, or it has an own half step."""
    if poly.degree < 1:
        return "number"
    if poly.degree == 1:
        return None
    degrees = sorted([poly.degree_in("x"), poly.degree_in("y")])
    if degrees[0] == 0:
        return "one letter"
    if degrees[1] % degrees[0] != 0:
        return "degrees"
    return "edge" if own_half_step(poly) is None else None


def is_half_steps(poly, value):
    """Whether any value is a list of half steps that lead the Poly to one of degree 1."""
    check_poly(poly)
    left = half_left_by(poly, value)
    return left is not None and left.degree == 1


def is_half_stop(poly, value):
    """Whether any value is a tuple of half steps that lead the Poly to one that stops at once, and its stop."""
    check_poly(poly)
    if not isinstance(value, tuple) or len(value) != 2 or not isinstance(value[1], str):
        return False
    left = half_left_by(poly, value[0])
    return left is not None and half_stop_at_once(left) == value[1]


def half_left_by(poly, value):
    """What any value makes of the Poly; None if that is no list of half steps that can be put."""
    if not isinstance(value, (list, tuple)) or len(value) > MOST_STEPS:
        return None
    if not all([is_half_step(step) for step in value]):
        return None
    left = poly
    for step in value:
        try:
            left = half_put(left, step)
        except TooMany:
            return None
    return left
