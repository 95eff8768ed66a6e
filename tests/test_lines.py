"""straightened.lines: points 5, 12 and 14, as far as they tell of lines."""

from fractions import Fraction

from straightened.errors import InvalidLine, InvalidNumber, NoughtLine, StateError
from straightened.lines import (
    common, degree, derived, divided, is_line, minus, plus, put_in, scaled, times, told, worth,
)
from straightened.ratios import Ratio
from tests.helpers import Case, Draw, fraction, fractions, not_lines, not_numbers

LARGE = 10 ** 40 + 7


def drawn_lines(seed, many, longest=7):
    draw = Draw(seed)
    return [[], (), [0, 0], [Ratio(0)], (5,), [0, 1]] + [draw.line(longest) for _ in range(many)]


def power(many, number=1):
    """The line that is a number times t to the power many."""
    return [0] * many + [number]


def slow_times(one, two):
    found = [Fraction(0)] * (len(one) + len(two) + 1)
    for at, number in enumerate(fractions(one)):
        for more, other in enumerate(fractions(two)):
            found[at + more] += number * other
    return fractions(found)


def slow_plus(one, two, factor=1):
    one, two = fractions(one), fractions(two)
    one, two = one + [Fraction(0)] * len(two), two + [Fraction(0)] * len(one)
    return fractions([number + factor * other for number, other in zip(one, two)])


def slow_worth(one, place):
    return sum([number * place ** at for at, number in enumerate(fractions(one))], Fraction(0))


class KindTest(Case):
    def test_lines_are_lists_or_tuples_of_numbers(self):
        for line in drawn_lines(1, 30) + [[LARGE, Ratio(LARGE, 3)], [0] * 31, [1] * 31, tuple([Ratio(1)] * 31)]:
            self.assert_bool(is_line(line), True)
            self.assert_bool(is_line(value=line), True)

    def test_all_else_is_none(self):
        for wrong in not_lines():
            with self.subTest(wrong):
                self.assert_bool(is_line(wrong), False)

    def test_a_list_within_itself_is_none(self):
        wrong = [1]
        wrong.append(wrong)
        self.assert_bool(is_line(wrong), False)

    def test_told(self):
        for line in drawn_lines(2, 60):
            self.assert_line(told(line), line)
            self.assert_line(told(line=line), line)
        self.assert_alike(told([1, 0, Ratio(4, 6), 0, Ratio(0)]), [Ratio(1), Ratio(0), Ratio(2, 3)])
        for line in ([], (), [0], (0, 0, Ratio(0)), [0] * 31):
            self.assert_alike(told(line), [])

    def test_degree(self):
        for line in drawn_lines(3, 60):
            self.assert_integer(degree(line), len(fractions(line)) - 1)
        for line, wanted in (([], -1), ([0, 0], -1), ([5], 0), ([5, 0], 0), ((0, 1), 1), ([1] * 31, 30)):
            self.assert_integer(degree(line=line), wanted)


class ReckoningTest(Case):
    def test_sums_and_differences(self):
        lines = drawn_lines(4, 25) + [[LARGE, -LARGE], [1] * 31]
        for one in lines:
            for two in lines:
                self.assert_line(plus(one, two), slow_plus(one, two))
                self.assert_line(minus(one, two), slow_plus(one, two, -1))
        self.assert_line(plus(line=[1, 2], other=[3, -2]), [4])
        self.assert_line(minus(line=[1, 2], other=[3, 2]), [-2])

    def test_nothing_is_left_of_a_line_less_itself(self):
        for line in drawn_lines(5, 20):
            self.assert_alike(minus(line, line), [])

    def test_scaled(self):
        draw = Draw(6)
        for line in drawn_lines(7, 40):
            for number in (0, 1, -3, Ratio(0), draw.number(), LARGE):
                wanted = [fraction(one) * fraction(number) for one in line]
                self.assert_line(scaled(line, number), wanted)
        self.assert_line(scaled(line=[1, 2], number=Ratio(1, 2)), [Ratio(1, 2), 1])

    def test_derived(self):
        for line in drawn_lines(8, 40) + [[1] * 31]:
            wanted = [fraction(number) * at for at, number in enumerate(line)][1:]
            self.assert_line(derived(line), wanted)
        self.assert_line(derived(line=[7, 5, 3, 2, 0]), [5, 6, 6])

    def test_products(self):
        lines = drawn_lines(9, 25) + [[LARGE, -LARGE]]
        for one in lines:
            for two in lines:
                self.assert_line(times(one, two), slow_times(one, two))
        self.assert_line(times(line=[1, 1], other=[-1, 1]), [-1, 0, 1])

    def test_put_in(self):
        draw = Draw(10)
        for one in drawn_lines(11, 25, 6):
            for two in drawn_lines(12, 10, 6):
                found = put_in(one, two)
                for place in (0, 1, -2, Fraction(1, 2), fraction(draw.number())):
                    self.assertEqual(slow_worth(found, place), slow_worth(one, slow_worth(two, place)))
                self.assert_line(found, found)
        self.assert_line(put_in(line=[1, 2, 3], other=[0, 0, 1]), [1, 0, 2, 0, 3])
        self.assert_line(put_in([1, 2, 3], [0, 0]), [1])
        self.assert_line(put_in([0, 0, 1], [1, 1]), [1, 2, 1])
        self.assert_line(put_in([], [1, 1]), [])

    def test_worth(self):
        draw = Draw(13)
        for line in drawn_lines(14, 60):
            for number in (0, 1, -1, LARGE, draw.number(), draw.ratio()):
                self.assert_ratio(worth(line, number), slow_worth(line, fraction(number)))
        self.assert_ratio(worth(line=[1, Ratio(1, 2)], number=4), 3)
        self.assert_ratio(worth([], 4), 0)


class DividingTest(Case):
    def test_quotient_and_rest(self):
        for one in drawn_lines(15, 30, 9):
            for two in drawn_lines(16, 20, 5):
                if not fractions(two):
                    continue
                found = divided(one, two)
                self.assertIs(found.__class__, tuple)
                quotient, rest = found
                self.assert_line(quotient, quotient)
                self.assert_line(rest, rest)
                self.assertEqual(slow_plus(slow_times(quotient, two), rest), fractions(one))
                self.assertLess(len(rest), len(fractions(two)))

    def test_examples(self):
        self.assertEqual(divided([-1, 0, 1], [1, 1]), ([Ratio(-1), Ratio(1)], []))
        self.assertEqual(divided(line=(1, 2), other=[0, 0, 5]), ([], [Ratio(1), Ratio(2)]))
        self.assertEqual(divided([], [3]), ([], []))
        self.assertEqual(divided([1, 0, 1, 0], [0, 2, 0]), ([Ratio(0), Ratio(1, 2)], [Ratio(1)]))

    def test_by_nought(self):
        for nought in ([], (), [0], (0, Ratio(0))):
            self.refused(NoughtLine, {}, divided, [1, 2], nought)
            self.refused(NoughtLine, {}, divided, [], nought)
            self.refused(NoughtLine, {}, divided, line=[1], other=nought)
        self.assertTrue(issubclass(NoughtLine, StateError))

    def test_common_divides_both_and_nothing_greater_does(self):
        draw = Draw(17)
        for _ in range(60):
            shared = draw.line(4)
            one, two = slow_times(shared, draw.line(4)), slow_times(shared, draw.line(4))
            one, two = [[Ratio(n.numerator, n.denominator) for n in line] for line in (one, two)]
            found = common(one, two)
            self.assert_line(found, found)
            if not one and not two:
                self.assertEqual(found, [])
                continue
            self.assert_ratio(found[-1], 1)
            (left, rest), (right, more) = divided(one, found), divided(two, found)
            self.assertEqual((rest, more), ([], []))
            if fractions(shared):
                self.assertEqual(divided(found, shared)[1], [])
            if left and right:
                # With what is common gone only numbers divide both: so nothing greater did.
                self.assertEqual(common(left, right), [Ratio(1)])

    def test_common_examples(self):
        for one, two, wanted in (
            ([-1, 0, 1], [2, 2], [1, 1]),
            ([], [], []),
            ([0, 0], (), []),
            ([0], [2, 4], [Ratio(1, 2), 1]),
            ([2, 4], [], [Ratio(1, 2), 1]),
            ([5], [], [1]),
            ([], [Ratio(2, 3)], [1]),
            ([7], [1, 2, 3], [1]),
            ([1, 1], [2, 1], [1]),
            ([1, 2, 1], [-1, 0, 1], [1, 1]),
            ([0, 0, 1], [0, 0, 0, 3], [0, 0, 1]),
        ):
            self.assert_line(common(one, two), wanted)
            self.assert_line(common(line=one, other=two), wanted)

    def test_common_of_long_lines(self):
        one = [1] * 31
        two = [(-1) ** at for at in range(31)]
        self.assert_line(common(one, two), [1])
        self.assert_line(common([1] * 30, [1] * 25), [1] * 5)


class FormalDegreeTest(Case):
    def test_products_up_to_thirty(self):
        self.assert_line(times(power(15, 2), power(15, 3)), power(30, 6))
        self.assert_line(times(power(30), [4]), power(30, 4))
        self.assert_line(times(power(30), [4, 0, 0]), power(30, 4))
        self.assert_line(times(power(30), []), [])
        self.assert_line(times([], power(30)), [])
        for one, two in ((15, 16), (30, 1), (1, 30), (30, 30)):
            self.refused_degree(30, times, power(one), power(two))
            self.refused_degree(30, times, line=power(one), other=tuple(power(two)))

    def test_put_in_up_to_thirty(self):
        self.assert_line(put_in(power(5, 2), power(6)), power(30, 2))
        self.assert_line(put_in(power(30), [1, 1])[:2], [1, 30])
        self.assert_line(put_in(power(30), [2]), [2 ** 30])
        self.assert_line(put_in(power(30), []), [])
        self.assert_line(put_in([7], power(30)), [7])
        self.assert_line(put_in([], power(30)), [])
        self.assert_line(put_in([1, 1], power(30)), [1] + power(29))
        for one, two in ((4, 8), (8, 4), (30, 2), (2, 16), (16, 2), (30, 30), (31 - 1, 30)):
            self.refused_degree(30, put_in, power(one), power(two))
            self.refused_degree(30, put_in, other=power(two), line=power(one))

    def test_sums_are_never_refused(self):
        self.assert_line(plus(power(30), power(30)), power(30, 2))
        self.assert_line(minus(power(30), power(29)), [0] * 29 + [-1, 1])


class WrongValuesTest(Case):
    ONE = (told, degree, derived)
    TWO = (plus, minus, times, put_in, divided, common)
    NUMBER = (scaled, worth)

    def test_wrong_lines(self):
        for wrong in not_lines():
            with self.subTest(wrong):
                for function in self.ONE:
                    self.refused_value(InvalidLine, wrong, function, wrong)
                    self.refused_value(InvalidLine, wrong, function, line=wrong)
                for function in self.TWO + self.NUMBER:
                    self.refused_value(InvalidLine, wrong, function, wrong, [1])
                    self.refused_value(InvalidLine, wrong, function, wrong, "wrong, too")

    def test_wrong_others(self):
        for wrong in not_lines():
            with self.subTest(wrong):
                for function in self.TWO:
                    self.refused_value(InvalidLine, wrong, function, [1, 2], wrong)
                    self.refused_value(InvalidLine, wrong, function, (), wrong)
                    self.refused_value(InvalidLine, wrong, function, other=wrong, line=[1] * 31)

    def test_wrong_numbers(self):
        for wrong in not_numbers():
            with self.subTest(wrong):
                for function in self.NUMBER:
                    self.refused_value(InvalidNumber, wrong, function, [1, 2], wrong)
                    self.refused_value(InvalidNumber, wrong, function, (), wrong)
                    self.refused_value(InvalidNumber, wrong, function, number=wrong, line=[])

    def test_the_first_of_two_alike_is_told(self):
        one, two = [True], [True, 1]
        for function in self.TWO:
            self.refused_value(InvalidLine, one, function, one, two)
            self.refused_value(InvalidLine, two, function, two, one)


class NewListsTest(Case):
    def test_what_is_passed_stays_as_it_was(self):
        one, two = [0, Ratio(1, 2), 3, 0], [1, 1, 0]
        for function in WrongValuesTest.ONE:
            function(one)
        for function in WrongValuesTest.TWO:
            function(one, two)
        for function in WrongValuesTest.NUMBER:
            function(one, 3)
        self.assertEqual(repr((one, two)), "([0, Ratio(1, 2), 3, 0], [1, 1, 0])")

    def test_told_lists_are_new(self):
        line = [Ratio(1), Ratio(2)]
        for make in (
            lambda: told(line), lambda: plus(line, []), lambda: plus([], line), lambda: minus(line, []),
            lambda: scaled(line, 1), lambda: times(line, [1]), lambda: put_in(line, [0, 1]), lambda: put_in([0, 1], line),
            lambda: divided(line, [0, 0, 1])[1], lambda: divided(line, [1])[0],
        ):
            found = make()
            self.assert_line(found, [1, 2])
            found.append(Ratio(9))
            self.assert_line(line, [1, 2])
            self.assert_line(make(), [1, 2])
