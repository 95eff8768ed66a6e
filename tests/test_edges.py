"""straightened.edges: point 62, and what is a half step of point 63."""

from fractions import Fraction

from straightened.edges import binomial_edge, is_half_step
from straightened.errors import InvalidLetter, InvalidPoly
from straightened.polys import Poly
from straightened.ratios import Ratio
from tests.helpers import (
    Case, Draw, amounts, fraction, not_half_steps, not_polys, slow_power, slow_product, slow_sum, strange,
)

X, Y = Poly.x(), Poly.y()
NUMBER = Poly.number


def poly_of(table):
    return Poly([(i, j, Ratio(amount.numerator, amount.denominator)) for (i, j), amount in table.items()])


def exchanged(poly):
    return Poly([(j, i, amount) for i, j, amount in poly.entries()])


def binomial_power(number, slope, many, times):
    """The table of number * (y + slope * x ** many) ** times."""
    binomial = {(0, 1): Fraction(1), (many, 0): fraction(slope)}
    return slow_product({(0, 0): fraction(number)}, slow_power(binomial, times))


def drawn_edges(seed, many):
    """Tuples (number, slope, many, times, table): a power of a binomial, and products below it."""
    draw, found = Draw(seed), []
    while len(found) < many:
        power, times = 1 + draw.below(6), 1 + draw.below(6)
        if power * times <= 18:
            number, slope = draw.but_nought(), draw.but_nought()
            table = binomial_power(number, slope, power, times)
            for _ in range(draw.below(5)):
                i, j = draw.below(power * times + 1), draw.below(times + 1)
                if i + power * j < power * times:
                    table = slow_sum(table, {(i, j): fraction(draw.number())})
            found.append((number, slope, power, times, table))
    return found


class BinomialEdgeTest(Case):
    def check(self, found, number, slope, many):
        self.assertIs(found.__class__, tuple)
        self.assertEqual(len(found), 3)
        self.assert_ratio(found[0], number)
        self.assert_ratio(found[1], slope)
        self.assert_integer(found[2], many)

    def test_powers_multiplied_out(self):
        for number, slope, many, times, table in drawn_edges(801, 80):
            poly = poly_of(table)
            self.check(binomial_edge(poly, "y"), number, slope, many)
            self.check(binomial_edge(letter="x", poly=exchanged(poly)), number, slope, many)
            if many > 1:
                self.assertIsNone(binomial_edge(poly, "x"))
                self.assertIsNone(binomial_edge(exchanged(poly), "y"))

    def test_one_amount_changed(self):
        draw = Draw(802)
        for _, _, many, times, table in drawn_edges(803, 80):
            edge = sorted([powers for powers in table if powers[0] + many * powers[1] == many * times])
            # Of a square another one may come.
            if times > 2:
                powers = edge[draw.below(len(edge))]
                wrong = slow_sum(table, {powers: fraction(draw.but_nought())})
                self.assertIsNone(binomial_edge(poly_of(wrong), "y"))
                self.assertIsNone(binomial_edge(exchanged(poly_of(wrong)), "x"))

    def test_a_product_above_the_edge(self):
        for _, _, many, times, table in drawn_edges(804, 40):
            if many * times < 18:
                wrong = slow_sum(table, {(many * times, 1): Fraction(1)})
                self.assertIsNone(binomial_edge(poly_of(wrong), "y"))
                self.assertIsNone(binomial_edge(exchanged(poly_of(wrong)), "x"))

    def test_where_the_degrees_are_alike(self):
        square = (Y + X.scaled(2)) * (Y + X.scaled(2))
        self.check(binomial_edge(square.scaled(3) + X, "y"), 3, 2, 1)
        self.check(binomial_edge(square.scaled(3) + X, "x"), 12, Ratio(1, 2), 1)
        self.check(binomial_edge(X + Y, "y"), 1, 1, 1)
        self.check(binomial_edge(X - Y.scaled(Ratio(1, 3)) + NUMBER(5), "x"), 1, Ratio(-1, 3), 1)
        self.assertIsNone(binomial_edge(X * X + Y * Y, "y"))
        self.assertIsNone(binomial_edge(X * X + Y * Y, "x"))
        self.assertIsNone(binomial_edge(X * Y, "y"))

    def test_examples(self):
        bent = X + (Y + X * X) * (Y + X * X)
        self.check(binomial_edge(bent, "y"), 1, 1, 2)
        self.assertIsNone(binomial_edge(bent, "x"))
        self.assertIsNone(binomial_edge(X + X * X * Y, "y"))
        self.check(binomial_edge(Y + Poly([(18, 0, Ratio(1, 2))]), "y"), 1, Ratio(1, 2), 18)
        self.check(binomial_edge(X.scaled(5) + Poly([(0, 18, 1)]), "x"), 5, Ratio(1, 5), 18)
        self.check(binomial_edge(poly_of(binomial_power(2, -1, 1, 18)), "y"), 2, -1, 1)

    def test_where_there_is_none(self):
        for poly in (
            Poly(), NUMBER(3), X, Y, X * X, Y * Y * Y, X + NUMBER(1), X * X * X + Y * Y, X * X * Y + X, X * X + X * Y,
            X * X + Y * Y * Y, Y * Y + X * X * X * X, Y * Y + (X * X * Y).scaled(2), X * X * (Y + X), Y * (X + Y),
            (Y * Y + (X * X * Y).scaled(2) + X * X * X * X) * X, Poly([(9, 9, 1)]), X * Y + NUMBER(1), X * X * X * Y + Y * Y,
        ):
            for letter in ("x", "y"):
                with self.subTest((poly, letter)):
                    self.assertIsNone(binomial_edge(poly, letter))

    def test_wrong_values(self):
        for wrong in not_polys():
            with self.subTest(wrong):
                self.refused_value(InvalidPoly, wrong, binomial_edge, wrong, "x")
                self.refused_value(InvalidPoly, wrong, binomial_edge, letter="z", poly=wrong)
        for wrong in strange() + [0, 1, "z", "X", "xy", "yx", " x", ["x"], ("y",), X, Y, Ratio(1)]:
            with self.subTest(wrong):
                self.refused_value(InvalidLetter, wrong, binomial_edge, X + Y, wrong)
                self.refused_value(InvalidLetter, wrong, binomial_edge, letter=wrong, poly=Poly())


class IsHalfStepTest(Case):
    def test_half_steps(self):
        for value in (("x", 1, 1), ("y", -3, 18), ("x", Ratio(1, 2), 2), ("y", 10 ** 30, 5), ("y", Ratio(-7), 18)):
            self.assert_bool(is_half_step(value), True)
            self.assert_bool(is_half_step(value=value), True)

    def test_all_else(self):
        for wrong in not_half_steps() + [(0, 1, 2), (1, 1, 2)]:
            with self.subTest(wrong):
                self.assert_bool(is_half_step(wrong), False)

    def test_edges_give_half_steps(self):
        for number, slope, many, times, table in drawn_edges(805, 20):
            found = binomial_edge(poly_of(table), "y")
            self.assert_bool(is_half_step(("y", found[1], found[2])), True)
            self.assertEqual(amounts(poly_of(table)), table)
