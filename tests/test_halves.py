"""straightened.halves: points 61 and 63 to 65."""

from fractions import Fraction

from straightened.edges import binomial_edge, is_half_step
from straightened.errors import InvalidPoly, InvalidStep
from straightened.halves import half_led, half_put, half_stop, is_half, is_half_steps, is_half_stop, own_half_steps
from straightened.polys import Poly
from straightened.ratios import Ratio
from straightened.shears import shear
from straightened.straights import straight
from tests.helpers import (
    Case, Draw, amounts, fraction, not_half_steps, not_lists, not_polys, slow_put, slow_sum, strange, undoable,
)

X, Y = Poly.x(), Poly.y()
NUMBER = Poly.number
KINDS = ("number", "one letter", "degrees", "edge")
STOPPED = [
    ("number", Poly()), ("number", NUMBER(3)), ("number", NUMBER(Ratio(-1, 2))),
    ("one letter", X * X), ("one letter", Y * Y * Y + Y), ("one letter", Poly([(18, 0, 1)])), ("one letter", X * X + NUMBER(1)),
    ("degrees", X * X + Y * Y * Y), ("degrees", X * X * X * Y + Y * Y), ("degrees", Poly([(18, 0, 1), (0, 7, 1)])),
    ("edge", X + X * X * Y), ("edge", X * Y), ("edge", X * X + Y * Y), ("edge", X * Y + X + Y), ("edge", Poly([(9, 9, 1)])),
    ("edge", (Y + X * X) * (Y - X * X)), ("edge", Y * Y + X * X * X * X), ("edge", X * X * Y + Y),
]


def drawn_half_steps(seed, many, most=3):
    draw = Draw(seed)
    return [("x" if draw.below(2) else "y", draw.but_nought(3), 1 + draw.below(most)) for _ in range(many)]


def formal_degree(poly, step):
    """As point 63 tells it."""
    letter, _, many = step
    return max([i + many * j if letter == "y" else many * i + j for i, j, _ in poly.entries()], default=0)


def steps_that_can_be_put(poly, seed, many, most=3, limit=8):
    """Drawn half steps whose formal degrees stay below a limit, and the Poly that they make."""
    found = []
    for step in drawn_half_steps(seed, many, most):
        if formal_degree(poly, step) <= limit:
            found.append(step)
            poly = half_put(poly, step)
    return found, poly


def contrary(step):
    return step[0], -step[1], step[2]


def halves(seed, many):
    """Halves of changes that can be undone, made by shears and straight changes."""
    return [half for change in undoable(seed, many) for half in (change.first, change.second)]


class HalfPutTest(Case):
    def slow(self, poly, step):
        letter, number, many = step
        x, y = {(1, 0): Fraction(1)}, {(0, 1): Fraction(1)}
        if letter == "y":
            return slow_put(amounts(poly), x, slow_sum(y, {(many, 0): fraction(number)}, -1))
        return slow_put(amounts(poly), slow_sum(x, {(0, many): fraction(number)}, -1), y)

    def test_what_comes(self):
        draw, checked = Draw(821), 0
        for step in drawn_half_steps(822, 90):
            poly = draw.poly(6)
            if formal_degree(poly, step) <= 18:
                checked += 1
                self.assert_poly(half_put(poly, step), self.slow(poly, step))
                self.assertEqual(half_put(step=step, poly=poly), half_put(poly, step))
                self.assertEqual(half_put(half_put(poly, step), contrary(step)), poly)
        self.assertGreater(checked, 70)

    def test_examples(self):
        self.assertEqual(half_put(Y, ("y", 1, 2)), Y - X * X)
        self.assertEqual(half_put(X, ("x", Ratio(1, 2), 3)), X - (Y * Y * Y).scaled(Ratio(1, 2)))
        self.assertEqual(half_put(X, ("y", 1, 18)), X)
        self.assertEqual(half_put(Poly(), ("x", 1, 18)), Poly())
        self.assertEqual(half_put(NUMBER(7), ("y", 1, 18)), NUMBER(7))
        self.assertEqual(half_put(Y + X * X, ("y", 1, 2)), Y)

    def test_degree_eighteen_and_above(self):
        for poly, step in (
            (Y, ("y", 1, 18)), (X, ("x", 1, 18)), (Poly([(18, 0, 1)]), ("y", 1, 18)), (Poly([(0, 18, 1)]), ("y", 1, 1)),
            (Poly([(0, 9, 1)]), ("y", 1, 2)), (Poly([(16, 1, 1)]), ("y", 1, 2)), (Poly([(9, 9, 1)]), ("x", 3, 1)),
            (Poly([(17, 0, 1), (0, 1, 1)]), ("y", 2, 17)), (Poly([(1, 16, 5), (0, 1, 2)]), ("x", 1, 2)),
            (Poly([(12, 0, 1), (0, 6, -1)]), ("y", 1, 3)),
        ):
            found = half_put(poly, step)
            self.assertLessEqual(found.degree, 18)
            self.assertEqual(half_put(found, contrary(step)), poly)
        for poly, step in (
            (X * Y, ("y", 1, 18)), (X * Y, ("x", 1, 18)), (Poly([(0, 10, 1)]), ("y", 1, 2)), (Poly([(17, 1, 1)]), ("y", 1, 2)),
            (Poly([(7, 0, 1), (0, 7, -1)]), ("y", 1, 3)), (Poly([(9, 1, 1)]), ("x", Ratio(1, 2), 2)),
        ):
            self.refused_degree(18, half_put, poly, step)
            self.refused_degree(18, half_put, step=step, poly=poly)
        # The formal degree counts, also where what is above 18 would cancel.
        ten = half_put(Poly([(0, 9, 1)]), ("y", 1, 2)) + Poly([(0, 10, 1)])
        self.refused_degree(18, half_put, ten, ("y", -1, 2))

    def test_wrong_values(self):
        for wrong in not_polys():
            with self.subTest(wrong):
                self.refused_value(InvalidPoly, wrong, half_put, wrong, ("x", 1, 1))
                self.refused_value(InvalidPoly, wrong, half_put, step=None, poly=wrong)
                for function in (own_half_steps, half_led, half_stop, is_half):
                    self.refused_value(InvalidPoly, wrong, function, wrong)
                    self.refused_value(InvalidPoly, wrong, function, poly=wrong)
                for function in (is_half_steps, is_half_stop):
                    self.refused_value(InvalidPoly, wrong, function, wrong, [])
                    self.refused_value(InvalidPoly, wrong, function, value=None, poly=wrong)
        for wrong in not_half_steps() + [(0, 1, 2)]:
            with self.subTest(wrong):
                self.refused_value(InvalidStep, wrong, half_put, X, wrong)
                self.refused_value(InvalidStep, wrong, half_put, step=wrong, poly=Poly([(9, 9, 1)]))


class OwnHalfStepsTest(Case):
    def check(self, poly):
        steps, left = own_half_steps(poly), poly
        self.assertIs(steps.__class__, list)
        for step in steps:
            self.assert_bool(is_half_step(step), True)
            self.assertIs(step[1].__class__, Ratio)
            wide, high = left.degree_in("x"), left.degree_in("y")
            self.assertGreaterEqual(left.degree, 2)
            self.assertEqual(step[0], "y" if wide >= high else "x")
            self.assertEqual(step[1:], binomial_edge(left, step[0])[1:])
            ahead, left = left, half_put(left, step)
            self.assertLessEqual(left.degree, ahead.degree)
            letter = "x" if step[0] == "y" else "y"
            self.assertLess(left.degree_in(letter), ahead.degree_in(letter))
        self.assertEqual(half_led(poly), left)
        if left.degree >= 2:
            letter = "y" if left.degree_in("x") >= left.degree_in("y") else "x"
            self.assertIsNone(binomial_edge(left, letter))
        self.assertEqual(own_half_steps(poly=poly), steps)
        self.assertEqual(half_led(poly=poly), left)
        return left

    def test_of_halves(self):
        for poly in halves(831, 30):
            self.assertEqual(self.check(poly).degree, 1)
            self.assertIsNone(half_stop(poly))
            self.assert_bool(is_half(poly), True)
            self.assert_bool(is_half_steps(poly, own_half_steps(poly)), True)

    def test_of_drawn_polys(self):
        draw, kinds = Draw(832), []
        for _ in range(150):
            poly = draw.poly(4)
            left = self.check(poly)
            self.assertEqual(half_stop(poly), half_stop(left))
            self.assertEqual(half_stop(poly) is None, left.degree == 1)
            self.assert_bool(is_half(poly), left.degree == 1)
            kinds.append(half_stop(poly))
        for kind in KINDS:
            self.assertIn(kind, kinds)

    def test_what_is_put_is_a_half_exactly_if_the_poly_was(self):
        draw = Draw(833)
        for at in range(60):
            poly = draw.poly(3)
            left = steps_that_can_be_put(poly, 840 + at, 4)[1]
            self.assert_bool(is_half(left), is_half(poly))
            self.check(left)

    def test_of_degree_eighteen(self):
        turn = straight([[1, 2], [3, -4]], (5, 6))
        wide = shear((0, 1), [0, 0, 1, 2]).behind(shear((1, 0), [0] * 6 + [2]))
        for change in (wide, turn.behind(wide), wide.behind(turn), shear((1, 3), [0] * 18 + [1]), shear((0, 1), list(range(19)))):
            for poly in (change.first, change.second):
                self.assertEqual(self.check(poly).degree, 1)
                self.assert_bool(is_half(poly), True)

    def test_examples(self):
        bent = X + (Y + X * X) * (Y + X * X)
        self.assertEqual(own_half_steps(bent), [("y", Ratio(1), 2), ("x", Ratio(1), 2)])
        self.assertEqual(half_led(bent), X)
        self.assertEqual(own_half_steps(X.scaled(2) + Y * Y), [("x", Ratio(1, 2), 2)])
        self.assertEqual(own_half_steps(X * X + (X * Y).scaled(2) + Y * Y + Y), [("y", Ratio(1), 1), ("x", Ratio(-1), 2)])
        for poly in (X, Y, X + Y, NUMBER(3), Poly(), X.scaled(5) + NUMBER(1)):
            self.assert_alike(own_half_steps(poly), [])
            self.assertEqual(half_led(poly), poly)


class HalfStopTest(Case):
    def test_stops(self):
        for kind, poly in STOPPED:
            with self.subTest(poly):
                self.assert_alike(half_stop(poly), kind)
                self.assert_alike(half_stop(poly=poly), kind)
                self.assert_bool(is_half(poly), False)
                self.assert_bool(is_half(poly=poly), False)
                self.assertEqual(own_half_steps(poly), [])

    def test_no_stop(self):
        for poly in (X, Y, X + Y, X.scaled(3) - NUMBER(2), Y + X * X, X + Poly([(0, 18, 2)]), Y.scaled(Ratio(1, 5))):
            self.assertIsNone(half_stop(poly))
            self.assert_bool(is_half(poly), True)

    def test_behind_own_half_steps(self):
        square = (Y + X * X) * (Y + X * X)
        self.assertEqual(half_stop(square), "one letter")
        self.assertEqual(half_stop(square + NUMBER(5)), "one letter")
        self.assertEqual(half_stop(square + X * X), "edge")
        self.assertEqual(half_stop(square + X * X * X), "degrees")
        self.assertEqual(half_stop(half_put(X * X + Y * Y * Y, ("x", 1, 2))), "degrees")


class PapersTest(Case):
    def test_half_steps_and_others(self):
        for at, poly in enumerate(halves(851, 12)):
            steps = own_half_steps(poly)
            self.assert_bool(is_half_steps(poly, tuple(steps)), True)
            self.assert_bool(is_half_steps(value=steps, poly=poly), True)
            there, left = steps_that_can_be_put(poly, 860 + at, 4, 2)
            self.assert_bool(is_half_steps(poly, there + own_half_steps(left)), True)
            self.assert_bool(is_half_steps(poly, steps + [("x", 3, 1), ("y", Ratio(1, 2), 1)]), True)
            for kind in KINDS:
                self.assert_bool(is_half_stop(poly, (steps, kind)), False)
                self.assert_bool(is_half_stop(poly, ([], kind)), False)
            self.assert_bool(is_half_steps(poly, steps[:-1]), len(steps) == 0)
            if steps:
                letter, number, many = steps[0]
                self.assert_bool(is_half_steps(poly, [(letter, number + 1, many)] + steps[1:]), False)

    def test_of_what_is_no_half(self):
        for at, (kind, poly) in enumerate(STOPPED):
            for name in KINDS:
                self.assert_bool(is_half_stop(poly, ([], name)), name == kind)
                self.assert_bool(is_half_stop(value=((), name), poly=poly), name == kind)
            there, left = steps_that_can_be_put(poly, 880 + at, 4, 2)
            self.assert_bool(is_half_stop(poly, (there + own_half_steps(left), half_stop(left))), True)
            self.assert_bool(is_half_steps(poly, there + own_half_steps(left)), False)
            back = [contrary(step) for step in there[::-1]]
            self.assert_bool(is_half_stop(poly, (there + back, kind)), True)

    def test_the_stop_is_there_at_once(self):
        square = (Y + X * X) * (Y + X * X) + X * X * X
        self.assert_bool(is_half_stop(square, ([], "degrees")), False)
        self.assert_bool(is_half_stop(square, ([("y", 1, 2)], "degrees")), True)
        self.assert_bool(is_half_stop(square, ([("y", 1, 2)], "edge")), False)
        self.assert_bool(is_half_stop(square, ([("y", 2, 2)], "edge")), False)

    def test_sixty_and_one_more(self):
        steps = [("x", 1, 2), ("x", -1, 2)] * 30
        self.assert_bool(is_half_steps(X, steps), True)
        self.assert_bool(is_half_steps(X, tuple(steps + [("y", 1, 1)])), False)
        self.assert_bool(is_half_steps(X, steps[:-2] + [("x", 1, 1), ("y", 3, 1)]), True)
        self.assert_bool(is_half_stop(X * Y, ([("x", 2, 3), ("x", -2, 3)] * 30, "edge")), True)
        self.assert_bool(is_half_stop(X * Y, ([("x", 2, 3), ("x", -2, 3)] * 30 + [("x", 1, 1)], "edge")), False)
        self.assert_bool(is_half_stop(NUMBER(5), ([("x", 2, 18), ("y", 2, 18)] * 30, "number")), True)

    def test_what_cannot_be_put(self):
        self.assert_bool(is_half_steps(Y + X * X, [("x", 1, 9), ("x", -1, 9), ("y", 1, 2)]), True)
        self.assert_bool(is_half_steps(Y + X * X, [("x", 1, 10), ("x", -1, 10), ("y", 1, 2)]), False)
        self.assert_bool(is_half_stop(X * X, ([("x", 1, 9), ("x", -1, 9)], "one letter")), True)
        self.assert_bool(is_half_stop(X * X, ([("x", 1, 10), ("x", -1, 10)], "one letter")), False)

    def test_values_of_all_kinds(self):
        wrongs = not_lists() + [[wrong] for wrong in not_half_steps()] + [(wrong,) for wrong in not_half_steps()]
        for wrong in wrongs + [("x", 1, 1), [("x", 1, 1), None]]:
            with self.subTest(wrong):
                self.assert_bool(is_half_steps(X, wrong), False)
                self.assert_bool(is_half_stop(X * Y, (wrong, "edge")), False)
        wrongs = [([], wrong) for wrong in strange() + [0, 1, None, "Edge", "edges", ["edge"], b"edge", "one  letter"]]
        for wrong in wrongs + not_lists() + [(), ([],), ([], "edge", 1), [[], "edge"], ("edge", []), "edge", []]:
            with self.subTest(wrong):
                self.assert_bool(is_half_stop(X * Y, wrong), False)
                self.assert_bool(is_half_stop(value=wrong, poly=X), False)

    def test_told_lists_are_new_and_nothing_is_changed(self):
        poly = Y + X * X
        own_half_steps(poly).append(5)
        self.assertEqual(own_half_steps(poly), [("y", Ratio(1), 2)])
        self.assertEqual(poly, Y + X * X)
