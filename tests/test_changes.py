"""straightened.changes: points 6, 21 and 22."""

from straightened.changes import Change, is_point, jacobian
from straightened.errors import InvalidChange, InvalidPoint, InvalidPoly
from straightened.polys import Poly
from straightened.ratios import Ratio
from tests.helpers import (
    Case, Draw, amounts, fraction, not_changes, not_points, not_polys, slow_product, slow_put, slow_sum, slow_worth,
)

X, Y = Poly.x(), Poly.y()
NUMBER = Poly.number
LARGE = 10 ** 33 + 1


def product(i, j, amount=1):
    return Poly([(i, j, amount)])


def drawn(seed, many, most=3):
    draw = Draw(seed)
    found = [Change.same(), Change(Y, X), Change(Poly(), Poly()), Change(NUMBER(2), X), Change(X + Y * Y, Y)]
    return found + [draw.change(most) for _ in range(many)]


def slow_jacobian(change):
    first, second = amounts(change.first), amounts(change.second)
    ahead = slow_product(by_x(first), by_y(second))
    return slow_sum(ahead, slow_product(by_y(first), by_x(second)), -1)


def by_x(table):
    return {(i - 1, j): table[(i, j)] * i for i, j in table if i}


def by_y(table):
    return {(i, j - 1): table[(i, j)] * j for i, j in table if j}


class MakingTest(Case):
    def test_halves_and_degree(self):
        for change in drawn(51, 30, 6):
            made = Change(change.first, change.second)
            self.assert_poly(made.first, amounts(change.first))
            self.assert_poly(made.second, amounts(change.second))
            self.assert_integer(made.degree, max(change.first.degree, change.second.degree))
        made = Change(second=X * X, first=Y)
        self.assertEqual((made.first, made.second, made.degree), (Y, X * X, 2))
        self.assert_integer(Change(Poly(), Poly()).degree, -1)
        self.assert_integer(Change(Poly(), NUMBER(1)).degree, 0)
        self.assert_integer(Change(X, product(9, 9)).degree, 18)

    def test_parts_are_not_assigned(self):
        for name in ("first", "second", "degree"):
            with self.assertRaises(AttributeError):
                setattr(Change.same(), name, X)

    def test_wrong_halves(self):
        for wrong in not_polys():
            with self.subTest(wrong):
                self.refused_value(InvalidPoly, wrong, Change, wrong, Y)
                self.refused_value(InvalidPoly, wrong, Change, wrong, "y")
                self.refused_value(InvalidPoly, wrong, Change, X, wrong)
                self.refused_value(InvalidPoly, wrong, Change, second=wrong, first=X)

    def test_same(self):
        self.assertEqual((Change.same().first, Change.same().second), (X, Y))
        self.assertEqual(Change(Y, X).same(), Change(X, Y))

    def test_equal(self):
        self.assert_bool(Change(X, Y * Y) == Change(Poly([(1, 0, Ratio(2, 2))]), product(0, 2)), True)
        self.assert_bool(Change(X, Y) != Change(X, Y), False)
        for other in (Change(Y, X), Change(X, X), Change(Y, Y), Change(X, Y + NUMBER(1))):
            self.assert_bool(Change(X, Y) == other, False)
            self.assert_bool(Change(X, Y) != other, True)
        for value in not_changes():
            self.assert_bool(Change(X, Y) == value, False)
            self.assert_bool(value == Change(X, Y), False)

    def test_repr(self):
        self.assert_alike(repr(Change(Poly(), Poly())), "Change(Poly([]), Poly([]))")
        told = "Change(Poly([(0, 0, Ratio(1, 2)), (0, 1, Ratio(1, 1))]), Poly([(1, 0, Ratio(-1, 1))]))"
        self.assert_alike(repr(Change(Y + NUMBER(Ratio(1, 2)), -X)), told)


class PointsTest(Case):
    def test_is_point(self):
        for value in ((0, 0), (1, Ratio(1, 2)), (Ratio(3), Ratio(-4, 3)), (LARGE, -LARGE)):
            self.assert_bool(is_point(value), True)
            self.assert_bool(is_point(value=value), True)
        for wrong in not_points():
            with self.subTest(wrong):
                self.assert_bool(is_point(wrong), False)

    def test_at(self):
        draw = Draw(52)
        for change in drawn(53, 40, 5):
            for point in ((0, 0), (1, 2), (LARGE, Ratio(1, LARGE)), draw.point(), draw.point()):
                place = (fraction(point[0]), fraction(point[1]))
                wanted = [slow_worth(amounts(half), *place) for half in (change.first, change.second)]
                self.assert_pair(change.at(point), wanted)
        self.assert_pair(Change(X + Y, Y).at(point=(1, 2)), (3, 2))

    def test_at_wrong_points(self):
        for wrong in not_points():
            with self.subTest(wrong):
                self.refused_value(InvalidPoint, wrong, Change.same().at, wrong)
                self.refused_value(InvalidPoint, wrong, Change(Poly(), Poly()).at, point=wrong)


class BehindTest(Case):
    def test_it_leads_where_the_one_leads_what_the_other_one_leads(self):
        draw = Draw(54)
        for one in drawn(55, 12):
            for two in drawn(56, 12):
                found = one.behind(two)
                for point in ((0, 0), draw.point()):
                    self.assertEqual(found.at(point), one.at(two.at(point)))
                for half, made in ((one.first, found.first), (one.second, found.second)):
                    self.assert_poly(made, slow_put(amounts(half), amounts(two.first), amounts(two.second)))

    def test_it_matters_which_is_behind(self):
        bent, turned = Change(X + Y * Y, Y), Change(Y, X)
        self.assertEqual(bent.behind(turned), Change(Y + X * X, X))
        self.assertEqual(turned.behind(other=bent), Change(Y, X + Y * Y))

    def test_three_behind_one_another(self):
        changes = drawn(57, 6, 2)
        for one in changes:
            for two in changes:
                for three in changes:
                    self.assertEqual(one.behind(two).behind(three), one.behind(two.behind(three)))

    def test_the_same_one_leaves_it_as_it_is(self):
        for change in drawn(58, 30, 18):
            self.assertEqual(change.behind(Change.same()), change)
            self.assertEqual(Change.same().behind(change), change)

    def test_degrees(self):
        for one in drawn(59, 15):
            for two in drawn(60, 15):
                if one.degree >= 1 and two.degree >= 1:
                    self.assertLessEqual(one.behind(two).degree, one.degree * two.degree)
        bent, back = Change(X + Y * Y, Y), Change(X - Y * Y, Y)
        self.assert_integer(bent.behind(back).degree, 1)

    def test_too_many_by_formal_degrees(self):
        self.assert_integer(Change(X, product(0, 3)).behind(Change(Y, product(6, 0))).degree, 18)
        self.assert_integer(Change(product(9, 9), X).behind(Change(Y, X)).degree, 18)
        self.assert_integer(Change(product(9, 9), X).behind(Change(NUMBER(1), NUMBER(2))).degree, 0)
        self.assert_integer(Change(NUMBER(1), Poly()).behind(Change(product(18, 0), Y)).degree, 0)
        for one, two in (
            (Change(X, product(0, 3)), Change(product(7, 0), Y)),
            (Change(product(0, 3), X), Change(product(7, 0), Y)),
            (Change(product(0, 3), X), Change(Poly(), product(7, 0))),
            (Change(product(18, 0), Y), Change(X, X * Y)),
            (Change(X * X - Y * Y, Y), Change(product(10, 0), product(10, 0))),
        ):
            self.refused_degree(18, one.behind, two)
            self.refused_degree(18, one.behind, other=two)

    def test_wrong_others(self):
        for wrong in not_changes():
            with self.subTest(wrong):
                self.refused_value(InvalidChange, wrong, Change.same().behind, wrong)
                self.refused_value(InvalidChange, wrong, Change(product(18, 0), Y).behind, other=wrong)

    def test_nothing_is_changed(self):
        one, two = Change(X + Y * Y, Y), Change(Y, X * X)
        kept = repr((one, two))
        one.behind(two), jacobian(one), one.at((1, 2))
        self.assertEqual(repr((one, two)), kept)


class JacobianTest(Case):
    def test_of_drawn_changes(self):
        for change in drawn(61, 60, 6):
            self.assert_poly(jacobian(change), slow_jacobian(change))
        self.assertEqual(jacobian(change=Change(X * Y, Y)), Y)

    def test_of_one_behind_another(self):
        for one in drawn(62, 10):
            for two in drawn(63, 10):
                put = jacobian(one).put(two.first, two.second)
                self.assertEqual(jacobian(one.behind(two)), put * jacobian(two))

    def test_examples(self):
        self.assertEqual(jacobian(Change(X + Y * Y, Y)), NUMBER(1))
        self.assertEqual(jacobian(Change(Y, X)), NUMBER(-1))
        self.assertEqual(jacobian(Change(X + X * X * Y, Y)), NUMBER(1) + (X * Y).scaled(2))
        self.assertEqual(jacobian(Change(Poly(), NUMBER(1))), Poly())
        self.assertEqual(jacobian(Change(X.scaled(2) + Y.scaled(3), X.scaled(4) + Y.scaled(5) + NUMBER(1))), NUMBER(-2))

    def test_too_many_by_formal_degrees(self):
        self.assert_integer(jacobian(Change(product(10, 0), product(0, 10))).degree, 18)
        self.assertEqual(jacobian(Change(product(18, 0), Y)), product(17, 0, 18))
        self.assertEqual(jacobian(Change(product(18, 0), X)), Poly())
        self.assertEqual(jacobian(Change(product(18, 0), product(18, 0))), Poly())
        self.assertEqual(jacobian(Change(product(18, 0), product(1, 1))), product(18, 0, 18))
        self.refused_degree(18, jacobian, Change(product(11, 0), product(0, 10)))
        self.refused_degree(18, jacobian, Change(product(0, 10), product(11, 0)))
        self.refused_degree(18, jacobian, change=Change(product(18, 0), product(0, 3)))
        # All of it would cancel.
        mixed = product(5, 6) + product(6, 5)
        self.refused_degree(18, jacobian, Change(mixed, mixed))
        self.assertEqual(jacobian(Change(product(5, 5), product(5, 5))), Poly())

    def test_wrong_changes(self):
        for wrong in not_changes():
            with self.subTest(wrong):
                self.refused_value(InvalidChange, wrong, jacobian, wrong)
                self.refused_value(InvalidChange, wrong, jacobian, change=wrong)
