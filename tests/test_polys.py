"""straightened.polys: points 5, 13 and 14, as far as they tell of Polys."""

from fractions import Fraction

from straightened.changes import Change
from straightened.errors import InvalidEntries, InvalidLetter, InvalidLine, InvalidMany, InvalidNumber, InvalidPoly
from straightened.polys import Poly
from straightened.ratios import Ratio
from tests.helpers import (
    Case, Draw, amounts, fraction, fractions, not_counts, not_lines, not_lists, not_numbers, not_polys, slow_product,
    slow_put, slow_sum, slow_worth, strange,
)

X, Y = Poly.x(), Poly.y()
LARGE = 10 ** 35 + 3


def drawn(seed, many, most=6):
    draw = Draw(seed)
    return [Poly(), X, Y, Poly.number(1), Poly([(0, 0, LARGE)])] + [draw.poly(most) for _ in range(many)]


def product(i, j, amount=1):
    return Poly([(i, j, amount)])


def not_entries():
    """Elements that no Poly has, wherever they stand."""
    found = [(wrong, 0, 1) for wrong in not_counts()] + [(0, wrong, 1) for wrong in not_counts()]
    found += [(0, 0, wrong) for wrong in not_numbers()]
    found += [(1, 1, 0), (1, 1, Ratio(0)), (19, 0, 1), (0, 19, 1), (10, 9, 1), (10 ** 40, 0, 1)]
    return found + [(), (1,), (1, 2), (1, 2, 3, 4), [1, 2, 3], "123", 5, None, X, Ratio(1), {0: 1}]


class MakingTest(Case):
    def test_entries_are_told_sorted_as_tuples_with_ratios(self):
        found = Poly([(2, 0, 3), (0, 1, Ratio(4, 6)), (0, 0, -1), (1, 5, LARGE)]).entries()
        self.assert_alike(found, [(0, 0, Ratio(-1)), (0, 1, Ratio(2, 3)), (1, 5, Ratio(LARGE)), (2, 0, Ratio(3))])
        for entry in found:
            self.assertEqual([part.__class__ for part in entry], [int, int, Ratio])

    def test_a_tuple_of_entries_and_none(self):
        self.assertEqual(Poly(((1, 0, 1),)), X)
        self.assertEqual(Poly(entries=[(0, 1, 1)]), Y)
        for nought in (Poly(), Poly([]), Poly(()), Poly(entries=())):
            self.assert_alike(nought.entries(), [])

    def test_the_sequence_of_entries_does_not_matter(self):
        rows = [(3, 1, 2), (0, 0, 1), (1, 3, Ratio(1, 2))]
        for one in (rows, rows[::-1], [rows[1], rows[0], rows[2]]):
            self.assertEqual(repr(Poly(one)), repr(Poly(rows)))

    def test_all_products_up_to_degree_eighteen(self):
        rows = [(i, j, 1) for i in range(19) for j in range(19 - i)]
        self.assertEqual(len(Poly(rows).entries()), 190)
        self.assertEqual(Poly([(18, 0, 1), (0, 18, 1), (9, 9, 1)]).degree, 18)

    def test_no_list(self):
        for wrong in not_lists():
            with self.subTest(wrong):
                self.refused(InvalidEntries, {"position": None}, Poly, wrong)
                self.refused(InvalidEntries, {"position": None}, Poly, entries=wrong)

    def test_the_first_wrong_element_is_told(self):
        for wrong in not_entries():
            with self.subTest(wrong):
                self.refused(InvalidEntries, {"position": 0}, Poly, [wrong])
                self.refused(InvalidEntries, {"position": 2}, Poly, [(0, 0, 1), (3, 0, 1), wrong, wrong, (0, 0, 1)])
                self.refused(InvalidEntries, {"position": 1}, Poly, entries=((5, 5, 1), wrong))

    def test_powers_that_stand_ahead(self):
        self.refused(InvalidEntries, {"position": 1}, Poly, [(1, 2, 3), (1, 2, 3)])
        self.refused(InvalidEntries, {"position": 2}, Poly, [(1, 2, 3), (2, 1, 3), (1, 2, -3), (2, 1, 1)])
        self.refused(InvalidEntries, {"position": 1}, Poly, [(1, 2, 3), (1, 2, 0), (1,)])

    def test_what_is_passed_is_copied(self):
        rows = [(1, 0, 1)]
        poly = Poly(rows)
        rows.append((0, 0, 5))
        self.assertEqual(poly, X)

    def test_told_lists_are_new(self):
        poly = Poly([(1, 0, 1)])
        poly.entries().append((0, 0, Ratio(1)))
        self.assertEqual(poly.entries(), [(1, 0, Ratio(1))])

    def test_class_methods(self):
        self.assert_poly(Poly.x(), {(1, 0): 1})
        self.assert_poly(Poly.y(), {(0, 1): 1})
        for number in (1, -5, LARGE, Ratio(2, 3)):
            self.assert_poly(Poly.number(number), {(0, 0): number})
            self.assert_poly(X.number(number=number), {(0, 0): number})
        for nought in (0, Ratio(0)):
            self.assert_poly(Poly.number(nought), {})
        for wrong in not_numbers():
            self.refused_value(InvalidNumber, wrong, Poly.number, wrong)
            self.refused_value(InvalidNumber, wrong, Poly.number, number=wrong)


class PartsTest(Case):
    def test_degree_and_nought(self):
        for poly in drawn(21, 50):
            table = amounts(poly)
            self.assert_integer(poly.degree, max([i + j for i, j in table], default=-1))
            self.assert_bool(poly.is_nought, not table)
        self.assert_integer(Poly([(2, 3, 1), (4, 0, 1)]).degree, 5)
        self.assert_integer(Poly().degree, -1)
        self.assert_integer(Poly.number(7).degree, 0)

    def test_parts_are_not_assigned(self):
        for name in ("degree", "is_nought"):
            with self.assertRaises(AttributeError):
                setattr(Poly(), name, 1)

    def test_degree_in(self):
        for poly in drawn(22, 50):
            table = amounts(poly)
            self.assert_integer(poly.degree_in("x"), max([i for i, _ in table], default=-1))
            self.assert_integer(poly.degree_in(letter="y"), max([j for _, j in table], default=-1))

    def test_amount(self):
        poly = Poly([(2, 1, 5), (0, 0, Ratio(1, 3))])
        self.assert_ratio(poly.amount(2, 1), 5)
        self.assert_ratio(poly.amount(first=0, second=0), Ratio(1, 3))
        for first, second in ((1, 2), (0, 1), (18, 18), (19, 0), (10 ** 30, 10 ** 30)):
            self.assert_ratio(poly.amount(first, second), 0)

    def test_amount_of_wrong_powers(self):
        for wrong in not_counts():
            with self.subTest(wrong):
                self.refused_value(InvalidMany, wrong, X.amount, wrong, 0)
                self.refused_value(InvalidMany, wrong, X.amount, wrong, "y")
                self.refused_value(InvalidMany, wrong, X.amount, 1, wrong)
                self.refused_value(InvalidMany, wrong, X.amount, second=wrong, first=1)

    def test_equal(self):
        self.assert_bool(Poly([(1, 0, 1), (0, 1, 2)]) == Poly([(0, 1, Ratio(4, 2)), (1, 0, Ratio(1))]), True)
        self.assert_bool(Poly([(1, 0, 1)]) != Poly([(1, 0, 1)]), False)
        for one, two in ((X, Y), (X, Poly()), (X, X.scaled(2)), (X, X + Y), (Poly(), Poly.number(1))):
            self.assert_bool(one == two, False)
            self.assert_bool(two == one, False)
            self.assert_bool(one != two, True)

    def test_unequal_to_all_other_kinds(self):
        for value in not_polys():
            for poly in (Poly(), X, Poly.number(1)):
                self.assert_bool(poly == value, False)
                self.assert_bool(value == poly, False)
                self.assert_bool(poly != value, True)

    def test_repr(self):
        self.assert_alike(repr(X), "Poly([(1, 0, Ratio(1, 1))])")
        self.assert_alike(repr(Poly()), "Poly([])")
        self.assert_alike(repr(Poly([(2, 0, Ratio(-1, 2)), (0, 1, 3)])), "Poly([(0, 1, Ratio(3, 1)), (2, 0, Ratio(-1, 2))])")


class ReckoningTest(Case):
    def test_sums_differences_and_contraries(self):
        for one in drawn(23, 20):
            for two in drawn(24, 20):
                self.assert_poly(one + two, slow_sum(amounts(one), amounts(two)))
                self.assert_poly(one - two, slow_sum(amounts(one), amounts(two), -1))
            self.assert_poly(-one, slow_sum({}, amounts(one), -1))
            self.assert_poly(one - one, {})

    def test_products(self):
        for one in drawn(25, 20):
            for two in drawn(26, 20):
                self.assert_poly(one * two, slow_product(amounts(one), amounts(two)))
        self.assert_poly((X + Y) * (X - Y), {(2, 0): 1, (0, 2): -1})

    def test_scaled(self):
        draw = Draw(27)
        for poly in drawn(28, 30):
            for number in (0, Ratio(0), 1, -2, LARGE, draw.number()):
                self.assert_poly(poly.scaled(number), slow_sum({}, amounts(poly), fraction(number)))
        self.assert_poly(X.scaled(number=3), {(1, 0): 3})

    def test_worth(self):
        draw = Draw(29)
        for poly in drawn(30, 40):
            for one, two in ((0, 0), (1, 1), (0, LARGE), (draw.number(), draw.number()), (draw.ratio(), draw.whole())):
                self.assert_ratio(poly.worth(one, two), slow_worth(amounts(poly), fraction(one), fraction(two)))
        self.assert_ratio((X * X * Y).worth(second=Ratio(1, 2), first=3), Ratio(9, 2))

    def test_put(self):
        polys = drawn(31, 12, 3)
        for poly in drawn(32, 10, 4):
            for one in polys:
                for two in polys:
                    self.assert_poly(poly.put(one, two), slow_put(amounts(poly), amounts(one), amounts(two)))
        self.assertEqual((X - Y).put(first=Y, second=X * X), Y - X * X)

    def test_along(self):
        draw = Draw(33)
        lines = [[], (0, 0), [5], [0, 1]] + [draw.line(5) for _ in range(12)]
        for poly in drawn(34, 12, 4):
            for one in lines:
                for two in lines:
                    self.check_along(poly, one, two)
        self.assert_line((X + Y * Y).along(second=[0, 1], first=[2]), [2, 0, 1])

    def check_along(self, poly, one, two):
        found = poly.along(one, two)
        self.assert_line(found, found)
        for place in (Fraction(0), Fraction(1), Fraction(-3, 2), Fraction(5)):
            across = sum([number * place ** at for at, number in enumerate(fractions(one))], Fraction(0))
            upward = sum([number * place ** at for at, number in enumerate(fractions(two))], Fraction(0))
            total = sum([fraction(number) * place ** at for at, number in enumerate(found)], Fraction(0))
            self.assertEqual(total, slow_worth(amounts(poly), across, upward))

    def test_derived(self):
        for poly in drawn(35, 40):
            table = amounts(poly)
            self.assert_poly(poly.derived("x"), {(i - 1, j): table[(i, j)] * i for i, j in table if i})
            self.assert_poly(poly.derived(letter="y"), {(i, j - 1): table[(i, j)] * j for i, j in table if j})

    def test_nothing_is_changed(self):
        one, two = Poly([(1, 1, 2), (0, 0, 1)]), Poly([(1, 1, -2), (3, 0, 1)])
        kept = repr((one, two))
        one + two, one - two, one * two, -one, one.scaled(3), one.put(two, one), one.along([0, 1], [1]), one.derived("x")
        self.assertEqual(repr((one, two)), kept)


class FormalDegreeTest(Case):
    def test_products(self):
        self.assert_poly(product(9, 0, 2) * product(0, 9, 3), {(9, 9): 6})
        self.assert_poly(product(18, 0) * Poly.number(4), {(18, 0): 4})
        self.assert_poly(product(18, 0) * Poly(), {})
        self.assert_poly(Poly() * product(18, 0), {})
        for one, two in ((10, 9), (9, 10), (18, 1), (1, 18), (18, 18)):
            self.refused_degree(18, lambda a, b: a * b, product(one, 0), product(0, two))

    def test_put(self):
        self.assert_poly(product(3, 0).put(product(0, 6), X), {(0, 18): 1})
        self.assert_poly(product(9, 9).put(Y, X), {(9, 9): 1})
        self.assert_poly(product(9, 9).put(Poly.number(2), Poly.number(1)), {(0, 0): 512})
        self.assert_poly(product(9, 9).put(Poly(), Poly.number(1)), {})
        self.assert_poly(Poly.number(3).put(product(18, 0), product(0, 18)), {(0, 0): 3})
        self.assert_poly(Poly().put(product(18, 0), product(0, 18)), {})
        self.assert_poly(X.put(product(18, 0), Poly()), {(18, 0): 1})
        for poly, first, second in (
            (product(3, 0), X, product(7, 0)),
            (product(3, 0), product(7, 0), Y),
            (product(0, 10), product(2, 0), Poly()),
            (product(0, 10), product(1, 1), Poly.number(1)),
            (product(18, 0) - product(17, 0), product(2, 0), X),
            (product(2, 0), product(10, 0), Poly()),
        ):
            self.refused_degree(18, poly.put, first, second)
            self.refused_degree(18, poly.put, second=second, first=first)

    def test_a_formal_degree_too_great_where_all_cancels(self):
        nothing = X - Y
        self.assert_poly(nothing.put(product(18, 0), product(18, 0)), {})
        cancelling = X * X - Y * Y
        self.refused_degree(18, cancelling.put, product(10, 0), product(10, 0))
        self.refused_degree(30, cancelling.along, [0] * 16 + [1], [0] * 16 + [1])
        self.assert_line(cancelling.along([0] * 15 + [1], [0] * 15 + [1]), [])

    def test_along(self):
        self.assert_line(X.along([0, 0, 0, 1], []), [0, 0, 0, 1])
        self.assert_line(product(10, 0).along([0, 0, 0, 1], [1]), [0] * 30 + [1])
        self.assert_line(product(0, 18).along([1], [0, 1]), [0] * 18 + [1])
        self.assert_line(product(1, 0).along([0] * 30 + [2], [1] * 31), [0] * 30 + [2])
        self.assert_line(product(18, 0).along([2, 0, 0], [1]), [2 ** 18])
        self.assert_line(product(9, 9).along([], []), [])
        self.assert_line(Poly.number(5).along([0] * 30 + [2], [1] * 31), [5])
        self.assert_line(Poly().along([0] * 30 + [2], [1] * 31), [])
        for poly, first, second in (
            (product(11, 0), [0, 0, 0, 1], []),
            (product(11, 0), [5], [0, 0, 0, 1]),
            (product(0, 11), [0, 0, 0, 1], [7]),
            (product(2, 0), [0] * 16 + [1], [0]),
            (product(16, 0), [1], [0, 0, 1]),
        ):
            self.refused_degree(30, poly.along, first, second)
            self.refused_degree(30, poly.along, second=second, first=first)


class WrongValuesTest(Case):
    def test_operators(self):
        for wrong in not_polys():
            with self.subTest(wrong):
                self.refused_value(InvalidPoly, wrong, lambda value: X + value, wrong)
                self.refused_value(InvalidPoly, wrong, lambda value: X - value, wrong)
                self.refused_value(InvalidPoly, wrong, lambda value: X * value, wrong)

    def test_a_ratio_takes_no_poly(self):
        self.refused_value(InvalidNumber, X, lambda value: Ratio(1) * value, X)

    def test_put(self):
        for wrong in not_polys():
            with self.subTest(wrong):
                self.refused_value(InvalidPoly, wrong, X.put, wrong, Y)
                self.refused_value(InvalidPoly, wrong, X.put, wrong, "y")
                self.refused_value(InvalidPoly, wrong, X.put, Y, wrong)
                self.refused_value(InvalidPoly, wrong, product(18, 0).put, second=wrong, first=product(18, 0))

    def test_along(self):
        for wrong in not_lines():
            with self.subTest(wrong):
                self.refused_value(InvalidLine, wrong, X.along, wrong, [1])
                self.refused_value(InvalidLine, wrong, X.along, wrong, "y")
                self.refused_value(InvalidLine, wrong, X.along, [1], wrong)
                self.refused_value(InvalidLine, wrong, product(18, 0).along, second=wrong, first=[1] * 31)

    def test_worth_and_scaled(self):
        for wrong in not_numbers():
            with self.subTest(wrong):
                self.refused_value(InvalidNumber, wrong, X.worth, wrong, 1)
                self.refused_value(InvalidNumber, wrong, X.worth, wrong, "y")
                self.refused_value(InvalidNumber, wrong, X.worth, 1, wrong)
                self.refused_value(InvalidNumber, wrong, Poly().worth, second=wrong, first=Ratio(1))
                self.refused_value(InvalidNumber, wrong, X.scaled, wrong)
                self.refused_value(InvalidNumber, wrong, Poly().scaled, number=wrong)

    def test_letters(self):
        for wrong in strange() + ["X", "xy", "yx", " x", b"x", ["x"], ("x",), 0, 1, Ratio(0), X, Change.same()]:
            with self.subTest(wrong):
                self.refused_value(InvalidLetter, wrong, X.derived, wrong)
                self.refused_value(InvalidLetter, wrong, X.derived, letter=wrong)
                self.refused_value(InvalidLetter, wrong, Poly().degree_in, wrong)
                self.refused_value(InvalidLetter, wrong, Poly().degree_in, letter=wrong)
