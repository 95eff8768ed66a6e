"""straightened.crossings: points 76, 77 and 78."""

from fractions import Fraction
from math import gcd

from straightened.crossings import crossing_line, is_crossing, quotient, sum_degrees
from straightened.errors import InvalidLine, InvalidMany, InvalidThread, NotApart
from straightened.polys import Poly
from straightened.ratios import Ratio
from straightened.threads import is_straightened, thread_at
from tests.helpers import (
    Case, CROSSED_THREADS, Draw, STRAIGHT_THREADS, amounts, bent_threads, fraction, fractions, not_counts, not_lines,
    not_points, not_threads, slow_along, slow_degree, slow_determinant, slow_line_product, slow_line_put, slow_line_sum,
    slow_line_worth, slow_product, slow_worth,
)

WIDE = [0] * 18 + [1]
SHARP = ([0, 0, 1], [0, 0, 0, 1])
NODE = ([-1, 0, 1], [0, -1, 0, 1])


def slow_quotient_rows(line):
    """The numbers of a line's quotient by falling powers of s, each a line in t."""
    numbers = fractions(line)
    return [numbers[power:] for power in range(len(numbers) - 1, 0, -1)]


def slow_crossing_line(thread):
    """The determinant of the table that point 77 tells, by its rows' entries."""
    degrees = [slow_degree(line) for line in thread]
    if min(degrees) < 1:
        return [Fraction(1)] if max(degrees) == 1 else []
    ahead, behind = [slow_quotient_rows(line) for line in thread]
    wide, rows = sum(degrees) - 2, []
    for numbers, many in ((ahead, degrees[1] - 1), (behind, degrees[0] - 1)):
        for at in range(many):
            rows.append([[] for _ in range(at)] + numbers + [[] for _ in range(wide - at - len(numbers))])
    return slow_determinant(rows, slow_line_sum, slow_line_product, [], [Fraction(1)])


def shifted(line, number):
    """The line with t - number for t, its roots moved by the number."""
    return slow_line_put(line, [-number, Fraction(1)])


def told(line):
    return [Ratio(number.numerator, number.denominator) for number in line]


class QuotientTest(Case):
    def test_times_the_difference(self):
        draw = Draw(1401)
        for _ in range(40):
            line = draw.line(10)
            found = quotient(line)
            whole = slow_product(amounts(found), {(1, 0): Fraction(1), (0, 1): Fraction(-1)})
            wanted = {}
            for power, number in enumerate(fractions(line)):
                if power and number:
                    wanted[(power, 0)], wanted[(0, power)] = number, -number
            self.assertEqual(whole, wanted)
            self.assertEqual(quotient(line=line), found)

    def test_degrees(self):
        self.assert_poly(quotient([]), {})
        self.assert_poly(quotient([5]), {})
        self.assert_poly(quotient((0, 0, 0)), {})
        self.assert_poly(quotient([1, 7, 0]), {(0, 0): 7})
        self.assert_poly(quotient([5, 0, 1]), {(1, 0): 1, (0, 1): 1})
        self.assert_poly(quotient(WIDE + [3]), {(i, 18 - i): 3 for i in range(19)} | {(i, 17 - i): 1 for i in range(18)})
        self.assert_poly(quotient(WIDE + [0] * 12), {(i, 17 - i): 1 for i in range(18)})
        for line in ([0] * 20 + [1], tuple(WIDE + [1, 1]), [0] * 30 + [Ratio(1, 2)]):
            self.refused_degree(18, quotient, line)
            self.refused_degree(18, quotient, line=line)

    def test_wrong_values(self):
        for wrong in not_lines():
            with self.subTest(wrong):
                self.refused_value(InvalidLine, wrong, quotient, wrong)
                self.refused_value(InvalidLine, wrong, quotient, line=wrong)


class CrossingLineTest(Case):
    def check(self, thread):
        found = crossing_line(thread)
        self.assert_line(found, slow_crossing_line(thread))
        self.assertEqual(crossing_line(thread=thread), found)
        self.assertEqual(len(found) == 1, is_straightened(thread))
        return found

    def test_of_drawn_threads(self):
        draw = Draw(1411)
        straightened = [len(self.check(draw.thread(4))) == 1 for _ in range(150)]
        self.assertIn(True, straightened)
        self.assertIn(False, straightened)

    def test_of_bent_threads(self):
        checked = 0
        for threads in (STRAIGHT_THREADS, CROSSED_THREADS):
            for seed in range(1420, 1460, 2):
                for thread, _ in bent_threads(seed, 6, threads, 6):
                    self.check(thread)
                    checked += 1
        for thread in (
            ([0, 1, 1], [0, 1, 1, 2, 1]), ([0, 0, 1], [0, 1]), ([3, 2], [0] * 6 + [5]), ([0] * 6 + [Ratio(1, 2)], [1, 1]),
            ([0, 1, 0, 1], [0, 0, 1]), ([0, 0, 0, 1], [0, 1, 0, 0, 0, 0, 1]),
        ):
            self.check(thread)

    def test_of_degree_six(self):
        draw = Draw(1412)
        for _ in range(3):
            thread = [draw.number(3) for _ in range(6)] + [1], [draw.number(3) for _ in range(6)] + [2]
            self.check(thread)
        power = [0, 1, 1]
        square = slow_line_put([0, 0, 1], power)
        self.check((power, told(slow_line_put([0, 0, 0, 1], power))))
        self.check((told(square), told(slow_line_sum(square, [Fraction(0), Fraction(1)]))))

    def test_degrees_of_one_and_below(self):
        for thread in (([0, 1], [5]), ([], [0, 3]), ([7], (2, Ratio(1, 2), 0)), ([0, 1], [1, 1]), ([2, 5], (1, -1))):
            self.assert_line(crossing_line(thread), [1])
        for thread in (([0, 0, 1], [5]), ([], [0, 0, 0, 0, 0, 0, 1]), ([1], [0, 1, 1])):
            self.assertEqual(crossing_line(thread), [])
        self.assert_line(crossing_line(([0, 3], [0, 0, 1])), [3])
        self.assert_line(crossing_line(([0, 0, 0, 1], [0, 3])), [9])
        self.assert_line(crossing_line(([0, 0, 1], [0, 0, 1])), [])

    def test_roots_are_crossings(self):
        draw, found = Draw(1413), 0
        for _ in range(200):
            # Two lines that are both 0 at two drawn numbers, moved by a point.
            one, two = fraction(draw.number()), fraction(draw.number())
            both = slow_line_product([-one, Fraction(1)], [-two, Fraction(1)])
            lines = [slow_line_product(both, fractions(draw.line(3))) for _ in range(2)]
            lines = [told(slow_line_sum(line, [fraction(draw.number())])) for line in lines]
            if max([slow_degree(line) for line in lines]) >= 1:
                found += 1
                thread = lines[0], lines[1]
                crossed = crossing_line(thread)
                for number in (one, two):
                    self.assertEqual(slow_line_worth(crossed, number), 0)
                self.assert_bool(is_crossing(thread, (told([one])[0], told([two])[0])), True)
        self.assertGreater(found, 100)

    def test_where_it_is_not_nought_there_is_no_crossing(self):
        draw = Draw(1414)
        for _ in range(60):
            thread = draw.thread(4)
            crossed = crossing_line(thread)
            for number in range(-3, 4):
                for other in range(-3, 4):
                    if is_crossing(thread, (number, other)):
                        self.assertEqual(slow_line_worth(crossed, number), 0)
                        self.assert_bool(is_straightened(thread), False)

    def test_above_degree_six(self):
        for thread in (
            ([0] * 7 + [1], [0, 1]), ([0, 1], [0] * 7 + [1]), ([5], [0] * 7 + [1]), (WIDE, []), (WIDE, WIDE),
            ([0, 0, 1], (0, 0, 0, 0, 0, 0, 0, Ratio(1, 7))),
        ):
            self.refused_degree(6, crossing_line, thread)
            self.refused_degree(6, crossing_line, thread=thread)

    def test_wrong_values(self):
        for wrong in not_threads():
            with self.subTest(wrong):
                self.refused_value(InvalidThread, wrong, crossing_line, wrong)
                self.refused_value(InvalidThread, wrong, crossing_line, thread=wrong)

    def test_told_lists_are_new(self):
        crossing_line(SHARP).append(5)
        self.assert_line(crossing_line(SHARP), [0, 0, 1])
        self.assertEqual(SHARP, ([0, 0, 1], [0, 0, 0, 1]))


class IsCrossingTest(Case):
    def test_both_quotients_are_nought(self):
        draw, crossings = Draw(1421), 0
        for at in range(150):
            thread = draw.thread(4) if at % 2 else CROSSED_THREADS[at % len(CROSSED_THREADS)]
            point = draw.whole(2), draw.whole(2)
            tables = [amounts(quotient(line)) for line in thread]
            wanted = all([slow_worth(table, point[0], point[1]) == 0 for table in tables])
            self.assert_bool(is_crossing(thread, point), wanted)
            self.assert_bool(is_crossing(value=point[::-1], thread=thread), wanted)
            crossings += wanted
        self.assertGreater(crossings, 5)

    def test_alike_numbers_by_their_worth(self):
        self.assert_bool(is_crossing(SHARP, (0, Ratio(0))), True)
        self.assert_bool(is_crossing(SHARP, (Ratio(0), 0)), True)
        self.assert_bool(is_crossing(NODE, (1, Ratio(1))), False)
        self.assert_bool(is_crossing(NODE, (Ratio(-1), 1)), True)
        self.assert_bool(is_crossing(([0, 0, 1], [5]), (Ratio(1, 2), Ratio(-1, 2))), True)
        self.assert_bool(is_crossing(([0, 0, 1], [0, 0, 1, 1]), (0, 0)), True)
        self.assert_bool(is_crossing(([0, 0, 1], [0, 1]), (0, 0)), False)
        # At 1/3 both lines stand still.
        third = [told(shifted([Fraction(0)] * many + [Fraction(1)], Fraction(1, 3))) for many in (2, 3)]
        self.assert_bool(is_crossing((third[0], third[1]), (Ratio(1, 3), Ratio(1, 3))), True)
        self.assert_bool(is_crossing((third[0], third[1]), (0, 0)), False)

    def test_whatever_the_degree(self):
        self.assert_bool(is_crossing((WIDE, [0] * 16 + [1]), (5, -5)), True)
        self.assert_bool(is_crossing((WIDE, [0] * 17 + [1]), (5, -5)), False)
        self.assert_bool(is_crossing((WIDE, [0] * 17 + [1]), (0, 0)), True)
        self.assert_bool(is_crossing((WIDE, [3]), (Ratio(1, 7), Ratio(-1, 7))), True)

    def test_none_of_a_straightened_thread(self):
        for thread, _ in bent_threads(1422, 20, STRAIGHT_THREADS):
            for number in range(-3, 4):
                for other in range(-3, 4):
                    self.assert_bool(is_crossing(thread, (number, other)), False)
                    if number != other:
                        self.assertNotEqual(thread_at(thread, number), thread_at(thread, other))

    def test_values_of_all_kinds(self):
        for wrong in not_points():
            with self.subTest(wrong):
                self.assert_bool(is_crossing(SHARP, wrong), False)
                self.assert_bool(is_crossing(value=wrong, thread=SHARP), False)
        for wrong in not_threads():
            with self.subTest(wrong):
                self.refused_value(InvalidThread, wrong, is_crossing, wrong, (0, 0))
                self.refused_value(InvalidThread, wrong, is_crossing, value=None, thread=wrong)


class SumDegreesTest(Case):
    def test_all_sums(self):
        for first in range(1, 10):
            for second in range(1, 10):
                thread = [1] * (first + 1), [0] * second + [Ratio(1, 2), 0]
                if gcd(first, second) == 1:
                    wanted = {i * first + j * second for i in range(61) for j in range(61)}
                    for many in (0, 1, 2, 7, 30, 60):
                        found = sum_degrees(thread, many)
                        self.assertEqual(found, sorted([one for one in wanted if one <= many]))
                        self.assertIs(found.__class__, list)
                        for one in found:
                            self.assertIs(one.__class__, int)
                        self.assertEqual(sum_degrees(many=many, thread=thread), found)
                else:
                    self.refused(NotApart, {}, sum_degrees, thread, 5)

    def test_against_worths_along(self):
        draw = Draw(1431)
        for first, second in ((2, 3), (3, 2), (3, 5), (1, 4), (5, 4)):
            thread = [draw.number() for _ in range(first)] + [1], [draw.number() for _ in range(second)] + [2]
            degrees = sum_degrees(thread, 60)
            for _ in range(40):
                worth = slow_along(draw.poly(5), thread)
                if worth:
                    self.assertIn(len(worth) - 1, degrees)
            for i in range(4):
                for j in range(4):
                    self.assertIn(i * first + j * second, degrees)
                    self.assertEqual(slow_degree(slow_along(Poly([(i, j, 1)]), thread)), i * first + j * second)
            self.assertEqual(1 in degrees, 1 in (first, second))

    def test_not_apart(self):
        for thread in (
            ([0, 0, 1], [0, 0, 0, 0, 1]), ([5], [0, 1]), ([0, 1], []), ([0, 1], [5]), ([], [0, 1]), ([0, 0, 0, 1], [0, 0, 0, 1]), (WIDE, [0] * 15 + [1]),
            ([0, 0, 1], [5, 0, 0]),
        ):
            self.refused(NotApart, {}, sum_degrees, thread, 60)
            self.refused(NotApart, {}, sum_degrees, many=0, thread=thread)
        # With a common divisor other degrees come up.
        worth = slow_along(Poly([(0, 2, 1), (3, 0, -1)]), ([0, 0, 0, 0, 1], [0, 1, 0, 0, 0, 0, 1]))
        self.assertEqual(slow_degree(worth), 7)

    def test_sixty_and_one_more(self):
        self.assertEqual(sum_degrees((WIDE, [0] * 17 + [1]), 60), [0, 17, 18, 34, 35, 36, 51, 52, 53, 54])
        for many in (61, 62, 100, 10 ** 29):
            self.refused_value(InvalidMany, many, sum_degrees, SHARP, many)

    def test_wrong_values(self):
        for wrong in not_counts() + [61]:
            with self.subTest(wrong):
                self.refused_value(InvalidMany, wrong, sum_degrees, SHARP, wrong)
                self.refused_value(InvalidMany, wrong, sum_degrees, many=wrong, thread=([0, 1], []))
        for wrong in not_threads():
            with self.subTest(wrong):
                self.refused_value(InvalidThread, wrong, sum_degrees, wrong, 5)
                self.refused_value(InvalidThread, wrong, sum_degrees, many=None, thread=wrong)

    def test_examples(self):
        self.assertEqual(sum_degrees(SHARP, 5), [0, 2, 3, 4, 5])
        self.assert_bool(is_crossing(SHARP, (0, 0)), True)
        self.assert_bool(is_crossing(NODE, (1, -1)), True)
        self.assertEqual(crossing_line(([0, 1, 1], [0, 1, 1, 2, 1])), crossing_line(([0, 1], [3])))
