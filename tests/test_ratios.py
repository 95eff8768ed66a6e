"""straightened.ratios: point 11, and of point 2 what it says of numbers."""

from fractions import Fraction

from straightened.changes import Change
from straightened.errors import BendError, DividedByZero, InvalidNumber
from straightened.polys import Poly
from straightened.ratios import Ratio, is_number
from tests.helpers import Case, Draw, fraction, not_lists, not_numbers

SMALL = [Ratio(top, bottom) for top in range(-4, 5) for bottom in (1, 2, 3, 5)]
LARGE = [Ratio(10 ** 35 + 1, 7), Ratio(-3, 10 ** 33 + 9), Ratio(2 ** 120, 3 ** 70), Ratio(-10 ** 40)]
WHOLE = [0, 1, -1, 3, -7, 12, 10 ** 31 + 7, -10 ** 33]


class MakingTest(Case):
    def test_lowest_terms_with_a_bottom_above_nought(self):
        for top in range(-30, 31):
            for bottom in list(range(-12, 0)) + list(range(1, 13)):
                made, wanted = Ratio(top, bottom), Fraction(top, bottom)
                self.assert_integer(made.top, wanted.numerator)
                self.assert_integer(made.bottom, wanted.denominator)

    def test_large_numbers_stay_exact(self):
        made = Ratio(6 * 11 ** 40, -4 * 7 ** 50)
        self.assertEqual((made.top, made.bottom), (-3 * 11 ** 40, 2 * 7 ** 50))

    def test_bottom_is_one_unless_told(self):
        self.assertEqual((Ratio(-5).top, Ratio(-5).bottom), (-5, 1))

    def test_by_name(self):
        self.assertEqual(Ratio(bottom=-4, top=2), Ratio(-1, 2))
        self.assertEqual(Ratio(top=3), Ratio(3))

    def test_the_first_wrong_parameter_is_told(self):
        for wrong in not_numbers() + [Ratio(2), Ratio(0)]:
            with self.subTest(wrong):
                self.refused_value(InvalidNumber, wrong, Ratio, wrong)
                self.refused_value(InvalidNumber, wrong, Ratio, wrong, 0)
                self.refused_value(InvalidNumber, wrong, Ratio, wrong, "2")
                self.refused_value(InvalidNumber, wrong, Ratio, 3, wrong)
                self.refused_value(InvalidNumber, wrong, Ratio, bottom=wrong, top=0)
        self.refused_value(InvalidNumber, 0, Ratio, 3, 0)
        self.refused_value(InvalidNumber, 0, Ratio, 0, 0)

    def test_parts(self):
        for number in SMALL + LARGE:
            exact = fraction(number)
            self.assert_integer(number.sign, (exact > 0) - (exact < 0))
            self.assert_bool(number.is_whole, exact.denominator == 1)

    def test_parts_are_not_assigned(self):
        number = Ratio(3, 2)
        for name in ("top", "bottom", "sign", "is_whole"):
            with self.assertRaises(AttributeError):
                setattr(number, name, 1)
        self.assertEqual(number, Ratio(3, 2))


class ReckoningTest(Case):
    def test_with_ratios(self):
        for one in SMALL + LARGE:
            for two in SMALL + LARGE:
                self.assert_ratio(one + two, fraction(one) + fraction(two))
                self.assert_ratio(one - two, fraction(one) - fraction(two))
                self.assert_ratio(one * two, fraction(one) * fraction(two))

    def test_with_integers_on_either_side(self):
        for one in SMALL + LARGE:
            for two in WHOLE:
                self.assert_ratio(one + two, fraction(one) + two)
                self.assert_ratio(one - two, fraction(one) - two)
                self.assert_ratio(one * two, fraction(one) * two)
                self.assert_ratio(two + one, two + fraction(one))
                self.assert_ratio(two - one, two - fraction(one))
                self.assert_ratio(two * one, two * fraction(one))

    def test_what_is_made_is_in_lowest_terms(self):
        self.assertEqual(repr(Ratio(1, 6) + Ratio(1, 3)), "Ratio(1, 2)")
        self.assertEqual(repr(Ratio(1, 6) - Ratio(1, 6)), "Ratio(0, 1)")
        self.assertEqual(repr(Ratio(-2, 3) * Ratio(3, 4)), "Ratio(-1, 2)")
        self.assertEqual(repr(Ratio(2, 3).over(Ratio(-4, 9))), "Ratio(-3, 2)")

    def test_sign_and_size(self):
        for one in SMALL + LARGE:
            self.assert_ratio(-one, -fraction(one))
            self.assert_ratio(one.size(), abs(fraction(one)))

    def test_over(self):
        for one in SMALL + LARGE:
            for two in SMALL + LARGE + WHOLE:
                if fraction(two) == 0:
                    self.refused(DividedByZero, {}, one.over, two)
                else:
                    self.assert_ratio(one.over(other=two), fraction(one) / fraction(two))

    def test_divided_by_zero_is_a_bend_error(self):
        with self.assertRaises(BendError):
            Ratio(0).over(0)

    def test_order(self):
        for one in SMALL + LARGE:
            for two in SMALL + LARGE + WHOLE:
                self.assert_bool(one.is_below(two), fraction(one) < fraction(two))
                self.assert_bool(one.is_at_most(two), fraction(one) <= fraction(two))
                self.assert_bool(one.is_below(other=two), fraction(one) < fraction(two))
                self.assert_bool(one.is_at_most(other=two), fraction(one) <= fraction(two))

    def test_wrong_values_on_the_right(self):
        one = Ratio(3, 2)
        for wrong in not_numbers():
            with self.subTest(wrong):
                self.refused_value(InvalidNumber, wrong, lambda value: one + value, wrong)
                self.refused_value(InvalidNumber, wrong, lambda value: one - value, wrong)
                self.refused_value(InvalidNumber, wrong, lambda value: one * value, wrong)
                self.refused_value(InvalidNumber, wrong, one.over, wrong)
                self.refused_value(InvalidNumber, wrong, one.is_below, wrong)
                self.refused_value(InvalidNumber, wrong, one.is_at_most, wrong)
                self.refused_value(InvalidNumber, wrong, one.over, other=wrong)
                self.refused_value(InvalidNumber, wrong, one.is_below, other=wrong)
                self.refused_value(InvalidNumber, wrong, one.is_at_most, other=wrong)

    def test_operators_leave_both_sides_as_they_are(self):
        one, two = Ratio(3, 2), Ratio(-1, 4)
        for _ in range(2):
            self.assertEqual([one + two, one - two, one * two, -one], [Ratio(5, 4), Ratio(7, 4), Ratio(-3, 8), Ratio(-3, 2)])
        self.assertEqual([repr(one), repr(two)], ["Ratio(3, 2)", "Ratio(-1, 4)"])

    def test_total(self):
        draw = Draw(11)
        for many in range(12):
            numbers = [draw.number() for _ in range(many)]
            wanted = sum([fraction(number) for number in numbers], Fraction(0))
            self.assert_ratio(Ratio.total(numbers), wanted)
            self.assert_ratio(Ratio.total(tuple(numbers)), wanted)
            self.assert_ratio(Ratio.total(numbers=numbers), wanted)
        self.assert_ratio(Ratio.total([]), 0)
        self.assert_ratio(Ratio(5).total((1, Ratio(1, 2))), Ratio(3, 2))

    def test_total_of_wrong_values(self):
        for wrong in not_lists():
            with self.subTest(wrong):
                self.refused_value(InvalidNumber, wrong, Ratio.total, wrong)
                self.refused_value(InvalidNumber, wrong, Ratio.total, numbers=wrong)
        for wrong in not_numbers():
            with self.subTest(wrong):
                self.refused_value(InvalidNumber, wrong, Ratio.total, [1, wrong, "behind"])
                self.refused_value(InvalidNumber, wrong, Ratio.total, (wrong,))


class TellingTest(Case):
    def test_equal_by_worth_to_ratios_alone(self):
        for one in SMALL + LARGE:
            for two in SMALL + LARGE:
                self.assert_bool(one == two, fraction(one) == fraction(two))
                self.assert_bool(one != two, fraction(one) != fraction(two))

    def test_unequal_to_all_other_kinds(self):
        for value in [0, 1, 2, -1] + not_numbers():
            for number in (Ratio(0), Ratio(1), Ratio(1, 2)):
                self.assert_bool(number == value, False)
                self.assert_bool(value == number, False)
                self.assert_bool(number != value, True)
                self.assert_bool(value != number, True)
        self.assert_bool([Ratio(1)] == [1], False)
        self.assert_bool((Ratio(2, 4), Ratio(1)) == (Ratio(1, 2), Ratio(1)), True)

    def test_texts(self):
        for number, text, told in (
            (Ratio(0), "0", "Ratio(0, 1)"),
            (Ratio(-5), "-5", "Ratio(-5, 1)"),
            (Ratio(3, 2), "3/2", "Ratio(3, 2)"),
            (Ratio(-6, 4), "-3/2", "Ratio(-3, 2)"),
            (Ratio(10 ** 31, 3), "1" + "0" * 31 + "/3", "Ratio(1" + "0" * 31 + ", 3)"),
        ):
            self.assert_alike(str(number), text)
            self.assert_alike(repr(number), told)

    def test_is_number(self):
        for value in SMALL + LARGE + WHOLE:
            self.assert_bool(is_number(value), True)
            self.assert_bool(is_number(value=value), True)
        for value in not_numbers() + [Poly(), Change.same()]:
            with self.subTest(value):
                self.assert_bool(is_number(value), False)
