"""straightened.partners: points 61, 66 and 67."""

from fractions import Fraction

from straightened.changes import Change, jacobian
from straightened.errors import InvalidPartner, InvalidPoly
from straightened.halves import is_half
from straightened.partners import is_partner, is_unity, partner, partner_parts, unity
from straightened.polys import Poly
from straightened.ratios import Ratio
from straightened.shears import shear
from straightened.stops import can_be_undone
from straightened.straights import straight
from tests.helpers import Case, Draw, amounts, fraction, not_polys, slow_power, slow_product, slow_sum, strange, undoable

X, Y = Poly.x(), Poly.y()
NUMBER = Poly.number
ONE = NUMBER(1)
NOT_HALVES = [
    Poly(), NUMBER(3), X * X, Y * Y * Y + Y, X * X + Y * Y * Y, X + X * X * Y, X * Y, X * X + Y * Y, Poly([(18, 0, 1)]),
    (Y + X * X) * (Y + X * X), Poly([(9, 9, 1)]), (Y + X * X) * (Y + X * X) + X * X * X,
]


def product(i, j, amount=1):
    return Poly([(i, j, amount)])


def derived(table, place):
    found = {}
    for powers in table:
        if powers[place]:
            lower = (powers[0] - 1, powers[1]) if place == 0 else (powers[0], powers[1] - 1)
            found[lower] = table[powers] * powers[place]
    return found


def slow_jacobian(one, two):
    one, two = amounts(one), amounts(two)
    ahead = slow_product(derived(one, 0), derived(two, 1))
    return slow_sum(ahead, slow_product(derived(one, 1), derived(two, 0)), -1)


def slow_jacobian_number(one, two):
    found = slow_jacobian(one, two)[(0, 0)]
    return Ratio(found.numerator, found.denominator)


def slow_through(line, poly):
    """The line with the Poly for t, as a table of amounts."""
    found, table = {}, amounts(poly)
    for power, number in enumerate(line):
        found = slow_sum(found, slow_power(table, power), fraction(number))
    return found


def pairs(seed, many):
    """Tuples of a half and one of its partners."""
    found = []
    for change in undoable(seed, many):
        found += [(change.first, change.second), (change.second, change.first)]
    return found


def of_degree_eighteen():
    wide = shear((0, 1), [0, 0, 1, 2]).behind(shear((1, 0), [0] * 6 + [2]))
    turn = straight([[1, 2], [3, -4]], (5, 6))
    return [wide, turn.behind(wide), wide.behind(turn), shear((1, 3), [0] * 18 + [1]), shear((0, 1), list(range(19)))]


class PartnerTest(Case):
    def check(self, poly):
        found = partner(poly)
        self.assertIs(found.__class__, Poly)
        self.assert_bool(can_be_undone(Change(poly, found)), True)
        self.assert_bool(is_partner(poly, found), True)
        jacobian_told = slow_jacobian(poly, found)
        self.assertEqual(list(jacobian_told), [(0, 0)])
        self.assertEqual(partner(poly=poly), found)
        return found

    def test_of_drawn_halves(self):
        for poly, other in pairs(901, 25):
            self.check(poly)
            self.assert_bool(is_partner(poly, other), True)
            self.assert_bool(is_partner(value=poly, poly=other), True)

    def test_of_degree_eighteen(self):
        for change in of_degree_eighteen():
            for poly, other in ((change.first, change.second), (change.second, change.first)):
                found = self.check(poly)
                self.assertLessEqual(found.degree, 18)
                number, line = partner_parts(poly, found, other)
                whole = slow_sum(slow_through(line, poly), amounts(found), fraction(number))
                self.assert_poly(other, whole)

    def test_of_degree_one(self):
        draw = Draw(902)
        for poly in (X, Y, X + Y, Y.scaled(5) - NUMBER(2), X.scaled(Ratio(-1, 3)) + NUMBER(1)):
            self.assertEqual(self.check(poly).degree, 1)
        for _ in range(20):
            change = straight(draw.rows(), draw.point())
            self.check(change.first)
            self.assert_bool(is_partner(change.first, change.second), True)

    def test_none(self):
        for poly in NOT_HALVES:
            with self.subTest(poly):
                self.assertIsNone(partner(poly))
                self.assertIsNone(unity(poly))
                self.assert_bool(is_half(poly), False)
                for value in (X, Y, X + Y, poly, Y + X * X):
                    self.assert_bool(is_partner(poly, value), False)

    def test_all_partners(self):
        draw = Draw(903)
        for poly, other in pairs(904, 10):
            for _ in range(3):
                number, line = draw.but_nought(), [draw.number() for _ in range(1 + draw.below(18 // poly.degree + 1))]
                table = slow_sum(slow_through(line, poly), amounts(other), fraction(number))
                made = Poly([(i, j, Ratio(table[(i, j)].numerator, table[(i, j)].denominator)) for i, j in table])
                self.assert_bool(is_partner(poly, made), True)
                found = partner_parts(poly, other, made)
                self.assertIs(found.__class__, tuple)
                self.assertEqual(len(found), 2)
                self.assert_ratio(found[0], number)
                self.assert_line(found[1], line)
                self.assertEqual(partner_parts(two=made, one=other, poly=poly), found)
                self.assert_bool(is_partner(poly, made + X * X * Y), False)

    def test_parts_of_one_and_the_same(self):
        for poly, other in pairs(905, 5):
            number, line = partner_parts(poly, other, other)
            self.assert_ratio(number, 1)
            self.assert_line(line, [])
            number, line = partner_parts(poly, other, other.scaled(-2) + NUMBER(3))
            self.assert_ratio(number, -2)
            self.assert_line(line, [3])
            number, line = partner_parts(poly, other.scaled(2) + poly, other)
            self.assert_ratio(number, Ratio(1, 2))
            self.assert_line(line, [0, Ratio(-1, 2)])

    def test_examples(self):
        bent = X + (Y + X * X) * (Y + X * X)
        self.assert_bool(is_partner(bent, Y + X * X), True)
        self.assert_bool(is_partner(bent, X), False)
        self.assert_bool(is_partner(X, Y.scaled(3) + product(18, 0)), True)
        self.assert_bool(is_partner(X, Y * Y), False)
        self.assert_bool(is_partner(X, X), False)
        self.assert_bool(is_partner(X, NUMBER(1)), False)
        number, line = partner_parts(Y, X, X.scaled(2) + Y * Y)
        self.assert_ratio(number, 2)
        self.assert_line(line, [0, 0, 1])
        number, line = partner_parts(X, Y, product(18, 0) - Y)
        self.assert_ratio(number, -1)
        self.assert_line(line, [0] * 18 + [1])

    def test_wrong_partners(self):
        for poly, other in pairs(906, 2) + [(X, Y)]:
            for wrong in not_polys() + [poly, Poly(), NUMBER(3), other * other, other + X * Y]:
                with self.subTest(wrong):
                    self.assert_bool(is_partner(poly, wrong), False)
                    self.refused_value(InvalidPartner, wrong, partner_parts, poly, wrong, other)
                    self.refused_value(InvalidPartner, wrong, partner_parts, poly, other, wrong)
                    self.refused_value(InvalidPartner, wrong, partner_parts, two=None, one=wrong, poly=poly)
                    self.refused_value(InvalidPartner, wrong, partner_parts, two=wrong, one=other, poly=poly)
        for poly in NOT_HALVES:
            self.refused_value(InvalidPartner, X, partner_parts, poly, X, Y)

    def test_wrong_polys(self):
        for wrong in not_polys():
            with self.subTest(wrong):
                for function in (partner, unity):
                    self.refused_value(InvalidPoly, wrong, function, wrong)
                    self.refused_value(InvalidPoly, wrong, function, poly=wrong)
                self.refused_value(InvalidPoly, wrong, is_partner, wrong, X)
                self.refused_value(InvalidPoly, wrong, is_partner, value=None, poly=wrong)
                self.refused_value(InvalidPoly, wrong, is_unity, wrong, (X, Y))
                self.refused_value(InvalidPoly, wrong, is_unity, value=None, poly=wrong)
                self.refused_value(InvalidPoly, wrong, partner_parts, wrong, X, Y)
                self.refused_value(InvalidPoly, wrong, partner_parts, two=None, one=5, poly=wrong)


class UnityTest(Case):
    def check(self, poly):
        found = unity(poly)
        self.assertIs(found.__class__, tuple)
        self.assertEqual(len(found), 2)
        table = amounts(poly)
        ahead = slow_product(amounts(found[0]), derived(table, 0))
        behind = slow_product(amounts(found[1]), derived(table, 1))
        self.assertEqual(slow_sum(ahead, behind), {(0, 0): Fraction(1)})
        self.assertEqual(unity(poly=poly), found)
        return found

    def test_added_up(self):
        for poly, _ in pairs(911, 25):
            found = self.check(poly)
            formal = [max(part.degree, 0) + max(poly.derived(letter).degree, 0) for part, letter in zip(found, "xy")]
            self.assert_bool(is_unity(poly, found), max(formal) <= 18)
            if max(formal) <= 18:
                self.assert_bool(is_unity(poly, (found[0] + ONE, found[1])), False)
                self.assert_bool(is_unity(poly, (found[0].scaled(2), found[1].scaled(2))), False)
                self.assert_bool(is_unity(poly, found[::-1]), poly.derived("x") == poly.derived("y"))

    def test_of_degree_eighteen(self):
        for change in of_degree_eighteen():
            self.check(change.first)
            self.check(change.second)

    def test_made_of_a_partner(self):
        for poly, other in pairs(912, 10):
            if poly.degree + other.degree <= 20:
                number = jacobian(Change(poly, other)).amount(0, 0)
                made = other.derived("y").scaled(Ratio(1).over(number)), other.derived("x").scaled(Ratio(-1).over(number))
                self.assert_bool(is_unity(poly, made), True)

    def test_examples(self):
        made = (ONE - (X * Y).scaled(2), (Y * Y).scaled(4))
        self.assert_bool(is_unity(X + X * X * Y, made), True)
        self.assert_bool(is_unity(value=made, poly=X + X * X * Y), True)
        self.assert_bool(is_unity(X, (ONE, Poly())), True)
        self.assert_bool(is_unity(X, (ONE, product(9, 9))), True)
        self.assert_bool(is_unity(Y, (product(0, 18), ONE)), True)
        self.assert_bool(is_unity(X.scaled(2), (NUMBER(Ratio(1, 2)), X)), True)
        self.assert_bool(is_unity(X, (ONE, ONE)), True)
        self.assert_bool(is_unity(X, (Poly(), ONE)), False)
        self.assert_bool(is_unity(X, (X, Y)), False)
        for poly in (Poly(), NUMBER(5)):
            self.assert_bool(is_unity(poly, (ONE, ONE)), False)

    def test_formal_degrees_of_eighteen_and_above(self):
        sixteen = product(0, 16)
        self.assert_bool(is_unity(X + Y * Y * Y, (ONE - (sixteen * Y * Y).scaled(3), sixteen)), True)
        self.assert_bool(is_unity(Y + product(18, 0), (Poly(), ONE)), True)
        self.assert_bool(is_unity(Y + product(18, 0), (X, ONE - product(18, 0, 18))), True)
        # Both add up to 1, but the first one by products of the degree 34 that cancel.
        change = of_degree_eighteen()[1]
        self.assertEqual((change.first.degree, change.second.degree), (18, 18))
        poly, number = change.first, Ratio(1).over(slow_jacobian_number(change.first, change.second))
        wide = change.second.derived("y").scaled(number), change.second.derived("x").scaled(-number)
        added = slow_sum(
            slow_product(amounts(wide[0]), derived(amounts(poly), 0)),
            slow_product(amounts(wide[1]), derived(amounts(poly), 1)),
        )
        self.assertEqual(added, {(0, 0): Fraction(1)})
        self.assert_bool(is_unity(poly, wide), False)

    def test_values_of_all_kinds(self):
        wrongs = strange() + [(ONE,), (ONE, Poly(), Poly()), [ONE, Poly()], (), ONE, X, "xy"]
        wrongs += [(ONE, wrong) for wrong in not_polys()] + [(wrong, Poly()) for wrong in not_polys()]
        for wrong in wrongs:
            with self.subTest(wrong):
                self.assert_bool(is_unity(X, wrong), False)
                self.assert_bool(is_unity(value=wrong, poly=X * Y), False)
