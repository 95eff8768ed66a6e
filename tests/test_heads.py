"""straightened.heads: points 15, 16 and 17, and the heads of point 5."""

from straightened.errors import InvalidMany, InvalidPoly, NoughtPoly, StateError
from straightened.heads import degree_by, edge, head, multiple, power_multiple, straight_root
from straightened.polys import Poly
from straightened.ratios import Ratio
from tests.helpers import Case, Draw, amounts, fraction, not_counts, not_many, not_polys, slow_power, slow_sum

X, Y = Poly.x(), Poly.y()
NUMBER = Poly.number


def drawn(seed, many, most=6):
    draw = Draw(seed)
    return [Poly(), X, Y, NUMBER(3), X * Y, X + Y] + [draw.poly(most) for _ in range(many)]


def poly_of(table):
    """The Poly with these amounts in Python's own fractions."""
    return Poly([(i, j, Ratio(table[(i, j)].numerator, table[(i, j)].denominator)) for i, j in table])


def power(poly, many):
    return poly_of(slow_power(amounts(poly), many))


class EdgesTest(Case):
    def test_heads(self):
        for poly in drawn(41, 60):
            table = amounts(poly)
            most = max([i + j for i, j in table], default=-1)
            self.assert_poly(head(poly), {(i, j): table[(i, j)] for i, j in table if i + j == most})
        self.assertEqual(head(poly=X * X + X * Y + X), X * X + X * Y)
        self.assertEqual(head(NUMBER(3)), NUMBER(3))
        self.assertEqual(head(Poly()), Poly())

    def test_degrees_and_edges_by_weights(self):
        for poly in drawn(42, 40):
            table = amounts(poly)
            for first, second in ((1, 1), (1, 2), (3, 1), (5, 7), (10 ** 12, 1)):
                most = max([first * i + second * j for i, j in table], default=-1)
                wanted = {(i, j): table[(i, j)] for i, j in table if first * i + second * j == most}
                self.assert_integer(degree_by(poly, first, second), most)
                self.assert_poly(edge(poly, first, second), wanted)
        self.assert_integer(degree_by(second=2, poly=X + Y, first=1), 2)
        self.assertEqual(edge(second=2, poly=X + Y, first=1), Y)

    def test_by_one_and_one_they_are_degree_and_head(self):
        for poly in drawn(43, 40):
            self.assert_integer(degree_by(poly, 1, 1), poly.degree)
            self.assertEqual(edge(poly, 1, 1), head(poly))

    def test_of_nought(self):
        self.assert_integer(degree_by(Poly(), 4, 9), -1)
        self.assertEqual(edge(Poly(), 4, 9), Poly())

    def test_wrong_values(self):
        for wrong in not_polys():
            with self.subTest(wrong):
                self.refused_value(InvalidPoly, wrong, head, wrong)
                self.refused_value(InvalidPoly, wrong, head, poly=wrong)
                for function in (degree_by, edge):
                    self.refused_value(InvalidPoly, wrong, function, wrong, 0, 0)
                    self.refused_value(InvalidPoly, wrong, function, second=1, first=1, poly=wrong)
        for wrong in not_counts() + [0, Ratio(1)]:
            with self.subTest(wrong):
                for function in (degree_by, edge):
                    self.refused_value(InvalidMany, wrong, function, X, wrong, 1)
                    self.refused_value(InvalidMany, wrong, function, X, wrong, "y")
                    self.refused_value(InvalidMany, wrong, function, Poly(), 1, wrong)
                    self.refused_value(InvalidMany, wrong, function, second=wrong, first=3, poly=X)


class MultiplesTest(Case):
    def test_multiples(self):
        draw = Draw(44)
        for poly in drawn(45, 50):
            if poly.is_nought:
                continue
            number = draw.but_nought()
            self.assert_ratio(multiple(poly.scaled(number), poly), number)
            self.assert_ratio(multiple(poly=poly, other=poly.scaled(number)), 1 / fraction(number))
            self.assert_ratio(multiple(Poly(), poly), 0)

    def test_what_is_none(self):
        for poly, other in (
            (X, Y), (Y, X), (X, X + Y), (X + Y, X), (X + Y.scaled(2), X + Y), (X, NUMBER(1)), (NUMBER(1), X),
            (X * X, X), (X, X * X), (X + NUMBER(1), X), (X, X + NUMBER(1)),
        ):
            self.assertIsNone(multiple(poly, other))

    def test_just_the_drawn_ones_that_fit_are_multiples(self):
        polys = drawn(46, 25, 3)
        for poly in polys:
            for other in polys[1:]:
                if other.is_nought:
                    continue
                self.check_multiple(poly, other)

    def check_multiple(self, poly, other):
        found = multiple(poly, other)
        ratios = [amounts(poly).get(powers, 0) / amounts(other)[powers] for powers in amounts(other)]
        if len(set(ratios)) == 1 and slow_sum({}, amounts(other), ratios[0]) == amounts(poly):
            self.assert_ratio(found, ratios[0])
        else:
            self.assertIsNone(found)

    def test_of_powers(self):
        draw = Draw(47)
        for poly in (X, Y, X + Y, X - NUMBER(2), (X + Y).scaled(Ratio(2, 3)), NUMBER(-2), NUMBER(1)):
            for many in (1, 2, 3, 7, 18):
                number = draw.but_nought()
                made = power(poly, many).scaled(number)
                self.assert_ratio(power_multiple(made, poly, many), number)
                self.assert_ratio(power_multiple(many=many, other=poly, poly=Poly()), 0)
        self.assert_ratio(power_multiple(power(X * Y + X, 9), X * Y + X, 9), 1)
        self.assert_ratio(power_multiple(power(X * X * Y, 6), X * X * Y, 6), 1)
        self.assert_ratio(power_multiple(Poly([(18, 0, 5)]), Poly([(18, 0, 1)]), 1), 5)

    def test_powers_that_do_not_fit(self):
        for poly, other, many in (
            (X * X, X, 1), (X, X, 2), (X * Y, X, 2), (X * X + Y, X, 2), (X * X, Y, 2), (NUMBER(4), X, 2),
            (X, NUMBER(4), 2), (X * X + X, X, 2), ((X + Y) * (X + Y) + X * Y, X + Y, 2),
        ):
            self.assertIsNone(power_multiple(poly, other, many))

    def test_powers_of_degrees_far_above_eighteen(self):
        far = Poly([(18, 0, 1), (0, 18, 1), (9, 9, 5), (0, 0, 1)])
        for poly in (X, NUMBER(1), far, Poly([(18, 0, 1)])):
            for many in (2, 17, 18):
                self.assertIsNone(power_multiple(poly, far, many))
        for many in (2, 18):
            self.assert_ratio(power_multiple(Poly(), far, many), 0)
        self.assertIsNone(power_multiple(Poly([(18, 0, 1)]), Poly([(0, 7, 1)]), 3))

    def test_by_nought(self):
        for poly in (X, Poly(), NUMBER(1)):
            self.refused(NoughtPoly, {}, multiple, poly, Poly())
            self.refused(NoughtPoly, {}, multiple, other=Poly(), poly=poly)
            self.refused(NoughtPoly, {}, power_multiple, poly, Poly(), 3)
            self.refused(NoughtPoly, {}, power_multiple, many=18, other=Poly(), poly=poly)
        self.assertTrue(issubclass(NoughtPoly, StateError))

    def test_wrong_values(self):
        for wrong in not_polys():
            with self.subTest(wrong):
                self.refused_value(InvalidPoly, wrong, multiple, wrong, Poly())
                self.refused_value(InvalidPoly, wrong, multiple, wrong, "y")
                self.refused_value(InvalidPoly, wrong, multiple, X, wrong)
                self.refused_value(InvalidPoly, wrong, multiple, other=wrong, poly=X)
                self.refused_value(InvalidPoly, wrong, power_multiple, wrong, Poly(), 0)
                self.refused_value(InvalidPoly, wrong, power_multiple, X, wrong, 0)
                self.refused_value(InvalidPoly, wrong, power_multiple, many="2", other=wrong, poly=Poly())
        for wrong in not_many():
            with self.subTest(wrong):
                self.refused_value(InvalidMany, wrong, power_multiple, X, Y, wrong)
                self.refused_value(InvalidMany, wrong, power_multiple, X, Poly(), wrong)
                self.refused_value(InvalidMany, wrong, power_multiple, many=wrong, other=X, poly=Poly())


class StraightRootsTest(Case):
    def check_root(self, found, number, direction):
        self.assertIs(found.__class__, tuple)
        self.assertEqual(len(found), 2)
        self.assert_ratio(found[0], number)
        self.assert_pair(found[1], direction)

    def test_each_degree_and_direction(self):
        draw = Draw(48)
        for degree in range(1, 19):
            for slope in (0, 1, -2, Ratio(1, 3), draw.but_nought()):
                number = draw.but_nought()
                made = power(Y - X.scaled(slope), degree).scaled(number)
                self.check_root(straight_root(made), number, (1, slope))
            self.check_root(straight_root(poly=power(X, degree).scaled(-7)), -7, (0, 1))

    def test_examples(self):
        self.check_root(straight_root(X.scaled(5)), 5, (0, 1))
        self.check_root(straight_root(Y.scaled(Ratio(1, 2))), Ratio(1, 2), (1, 0))
        self.check_root(straight_root(X.scaled(4) + Y.scaled(2)), 2, (1, -2))
        self.check_root(straight_root(Poly([(2, 0, 3), (1, 1, -12), (0, 2, 12)])), 12, (1, Ratio(1, 2)))

    def test_what_has_none(self):
        for poly in (
            Poly(), NUMBER(1), NUMBER(-3), X * Y, X * X + Y * Y, X * X - Y * Y, X + NUMBER(1), Y + NUMBER(1),
            X * X + X, Y * Y + X, Y * Y + Y, X * X * X + Y * Y * Y, X * X + X * Y, Y * Y + X * Y,
            power(X + Y, 4) + X * X * X * X, power(X + Y, 4) + X * X * Y * Y, power(X + Y, 18) + X, X * power(Y, 17),
        ):
            with self.subTest(poly):
                self.assertIsNone(straight_root(poly))

    def test_wrong_values(self):
        for wrong in not_polys():
            with self.subTest(wrong):
                self.refused_value(InvalidPoly, wrong, straight_root, wrong)
                self.refused_value(InvalidPoly, wrong, straight_root, poly=wrong)
