"""straightened.equations: points 81, 82, 85 and 86."""

from fractions import Fraction

from straightened.equations import equation, is_on, trace
from straightened.errors import InvalidPoly, InvalidThread
from straightened.halves import is_half
from straightened.lines import put_in
from straightened.polys import Poly
from straightened.ratios import Ratio
from straightened.threads import is_straightened, thread_at
from straightened.walked import outer, walked
from tests.helpers import (
    Case, CROSSED_THREADS, Draw, STRAIGHT_THREADS, amounts, bent_threads, fraction, fractions, not_polys, not_threads,
    pair, slow_along, slow_degree, slow_determinant, slow_power, slow_product, slow_sum, slow_worth,
)

X, Y = Poly.x(), Poly.y()
NUMBER = Poly.number
WIDE = [0] * 18 + [1]
SHARP = ([0, 0, 1], [0, 0, 0, 1])


def slow_equation(thread):
    """The determinant of the table that point 82 tells, scaled, as a table of amounts."""
    rows_told = []
    for line, letter in zip(thread, ((1, 0), (0, 1))):
        numbers = fractions(line) or [Fraction(0)]
        entries = [{(0, 0): number} if number else {} for number in numbers[::-1]]
        entries[-1] = slow_sum(entries[-1], {letter: Fraction(-1)})
        rows_told.append(entries)
    wide, rows = sum([len(entries) - 1 for entries in rows_told]), []
    for entries, others in (rows_told, rows_told[::-1]):
        for at in range(len(others) - 1):
            rows.append([{} for _ in range(at)] + entries + [{} for _ in range(wide - at - len(entries))])
    found = slow_determinant(rows, slow_sum, slow_product, {}, {(0, 0): Fraction(1)})
    last = found[max(found)]
    return {powers: found[powers] / last for powers in found}


def greater_degree(thread):
    return max([slow_degree(line) for line in thread])


def drawn_threads(seed, many, most=4):
    draw = Draw(seed)
    return [draw.thread(most) for _ in range(many)]


def small_threads():
    """Threads of a degree of at most 4, straightened ones and others."""
    found = [thread for thread in STRAIGHT_THREADS + CROSSED_THREADS]
    for seed in range(1640, 1670, 2):
        found += [thread for thread, _ in bent_threads(seed, 4, STRAIGHT_THREADS) if greater_degree(thread) <= 4]
    found += [([0, 0, 0, 0, 1], [3]), ([2], [1, 1, 1]), ([0, 1, 1], [0, 1, 1, 2, 1]), ([], [0, 2]), ([0, 1, 0, 0, 2], [])]
    return found


class EquationTest(Case):
    def check(self, thread):
        found = equation(thread)
        self.assert_poly(found, slow_equation(thread))
        self.assert_ratio(found.entries()[-1][2], 1)
        self.assertLessEqual(found.degree_in("x"), max(slow_degree(thread[1]), 0))
        self.assertLessEqual(found.degree_in("y"), max(slow_degree(thread[0]), 0))
        self.assertEqual(slow_along(found, thread), [])
        self.assert_bool(is_on(found, thread), True)
        self.assertEqual(equation(thread=thread), found)
        self.assert_bool(is_half(found), is_straightened(thread))
        return found

    def test_of_drawn_threads(self):
        kinds = [is_straightened(thread) for thread in drawn_threads(1601, 60)]
        for thread in drawn_threads(1601, 60):
            self.check(thread)
        self.assertEqual({True, False}, set(kinds))

    def test_of_small_threads(self):
        for thread in small_threads():
            self.check(thread)

    def test_at_points(self):
        draw = Draw(1602)
        for thread in drawn_threads(1603, 20, 3):
            found = amounts(equation(thread))
            for number in range(-12, 13):
                x, y = pair(thread_at(thread, number))
                self.assertEqual(slow_worth(found, x, y), 0)
        # Beside a line (t, q) no number tells a point.
        for thread in (([0, 1], [1, 2, 3]), ([5, 2], [0, 0, 0, 1])):
            found = amounts(equation(thread))
            for _ in range(20):
                x, y = pair(thread_at(thread, draw.number()))
                self.assertNotEqual(slow_worth(found, x, y + fraction(draw.but_nought())), 0)

    def test_told_facts(self):
        line = [3, Ratio(1, 2), 0, 5]
        x_put = NUMBER(3) + X.scaled(Ratio(1, 2)) + (X * X * X).scaled(5)
        found = equation(([0, 1], line))
        self.assertEqual(found, (x_put - Y).scaled(Ratio(1, 5)))
        for many in range(1, 5):
            thread = [1, 2, 3, 4, 5][:many + 1], [5]
            self.assert_poly(equation(thread), slow_power({(0, 1): Fraction(1), (0, 0): Fraction(-5)}, many))
            self.assert_poly(equation((thread[1], thread[0])), slow_power({(1, 0): Fraction(1), (0, 0): Fraction(-5)}, many))
        self.assertEqual(equation(([], [0, 1])), X)
        self.assertEqual(equation(([0, 1], [])), Y)
        self.assertEqual(equation(SHARP), Poly([(3, 0, 1), (0, 2, -1)]))
        self.assertEqual(equation(([0, 0, 1], [0, 0, 0, 0, 1])), Poly([(4, 0, 1), (2, 1, -2), (0, 2, 1)]))

    def test_above_degree_four(self):
        self.check(([0, 1, 2, 3, 4], [Ratio(1, 2), 0, 0, 1, 5]))
        for thread in (
            ([0] * 5 + [1], [0, 1]), ([0, 1], [0] * 5 + [1]), ([3], [0] * 5 + [1]), (WIDE, []), (WIDE, WIDE),
            ([0] * 6 + [1], [0, 0, 0, 1]),
        ):
            self.refused_degree(4, equation, thread)
            self.refused_degree(4, equation, thread=thread)

    def test_wrong_values(self):
        for wrong in not_threads():
            with self.subTest(wrong):
                for function in (equation, trace):
                    self.refused_value(InvalidThread, wrong, function, wrong)
                    self.refused_value(InvalidThread, wrong, function, thread=wrong)


class IsOnTest(Case):
    def test_products_with_the_equation(self):
        draw = Draw(1611)
        for thread in drawn_threads(1612, 30):
            found = trace(thread)
            other = draw.poly(18 - found.degree if found.degree > 10 else 8)
            self.assert_bool(is_on(found * other, thread), True)
            self.assert_bool(is_on(thread=thread, poly=found * other), True)
            wanted = slow_along(other, thread) == []
            self.assert_bool(is_on(other, thread), wanted)
            self.assert_bool(is_on(found * other + NUMBER(1), thread), False)

    def test_drawn_polys(self):
        draw = Draw(1613)
        for thread in drawn_threads(1614, 60, 2):
            poly = draw.poly(3)
            self.assert_bool(is_on(poly, thread), slow_along(poly, thread) == [])
            self.assert_bool(is_on(Poly(), thread), True)
            self.assert_bool(is_on(NUMBER(2), thread), False)

    def test_without_a_bound(self):
        nine = [0] * 9 + [1]
        self.assert_bool(is_on(Poly([(18, 0, 1), (0, 9, -1)]), (nine, WIDE)), True)
        self.assert_bool(is_on(Poly([(18, 0, 1), (0, 9, -1), (1, 0, 1)]), (nine, WIDE)), False)
        self.assert_bool(is_on(Poly([(18, 0, 1), (0, 18, -1)]), (WIDE, WIDE)), True)
        self.assert_bool(is_on(Poly([(18, 0, 1), (0, 18, -1)]), (WIDE, [0] * 18 + [-1])), True)
        self.assert_bool(is_on(Poly([(17, 0, 1), (0, 17, -1)]), (WIDE, [0] * 18 + [-1])), False)
        self.assert_bool(is_on(Poly([(2, 0, 1), (0, 1, -1)]), ([0, 1, 1], [0, 0, 1, 2, 1])), True)

    def test_wrong_values(self):
        for wrong in not_polys():
            with self.subTest(wrong):
                self.refused_value(InvalidPoly, wrong, is_on, wrong, SHARP)
                self.refused_value(InvalidPoly, wrong, is_on, thread=None, poly=wrong)
        for wrong in not_threads():
            with self.subTest(wrong):
                self.refused_value(InvalidThread, wrong, is_on, X, wrong)
                self.refused_value(InvalidThread, wrong, is_on, thread=wrong, poly=Poly())


class TraceTest(Case):
    def check(self, thread):
        found, many = trace(thread), walked(thread)
        self.assertEqual(found, equation(outer(thread)))
        self.assertEqual(slow_along(found, thread), [])
        self.assertEqual(trace(thread=thread), found)
        if greater_degree(thread) <= 4:
            self.assert_poly(equation(thread), slow_power(amounts(found), many))
        self.assert_bool(is_straightened(thread), many == 1 and is_half(found))
        return found

    def test_power_of_the_trace(self):
        draw, walks = Draw(1621), []
        for thread in drawn_threads(1622, 40, 2) + small_threads():
            self.check(thread)
            for wide in (2, 3, 4, 9):
                line = [draw.number(3) for _ in range(wide)] + [draw.but_nought(3)]
                if wide * greater_degree(thread) <= 18:
                    late = put_in(thread[0], line), put_in(thread[1], line)
                    self.assertEqual(self.check(late), trace(thread))
                    self.assert_bool(is_straightened(late), False)
                    walks.append(walked(late))
        self.assertGreater(len(set(walks)), 4)

    def test_the_trace_alone_will_not_do(self):
        double = ([0, 0, 1], [0, 0, 0, 0, 1])
        self.assertEqual(self.check(double), X * X - Y)
        self.assert_bool(is_half(trace(double)), True)
        self.assert_bool(is_half(equation(double)), False)
        self.assertEqual(walked(SHARP), 1)
        self.assert_bool(is_half(self.check(SHARP)), False)

    def test_degree_of_the_outer_thread(self):
        self.assertEqual(trace((WIDE, [0] * 9 + [1])), X - Y * Y)
        self.assertEqual(trace((WIDE, WIDE)), X - Y)
        self.assertEqual(trace(([], WIDE)), X)
        self.assertEqual(trace(([0] * 12 + [1], [0] * 16 + [1])), Poly([(4, 0, 1), (0, 3, -1)]))
        self.assertEqual(trace(([0] * 6 + [1], [0] * 8 + [1])), Poly([(4, 0, 1), (0, 3, -1)]))
        for thread in (
            ([0] * 5 + [1], [0, 1]), (WIDE, [0] * 12 + [1, 1]), ([0] * 10 + [1], [0] * 8 + [1]), (WIDE, [0] * 17 + [1]),
        ):
            self.refused_degree(4, trace, thread)
            self.refused_degree(4, trace, thread=thread)
