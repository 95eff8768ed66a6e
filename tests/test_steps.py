"""straightened.steps: points 31 and 32, and of 36 what is said of the jacobian."""

from straightened.changes import Change, jacobian
from straightened.errors import InvalidChange, InvalidStep
from straightened.polys import Poly
from straightened.ratios import Ratio
from straightened.shears import shear
from straightened.steps import is_step, led, own_steps, taken
from straightened.straights import is_straight
from tests.helpers import (
    Case, Draw, amounts, drawn_steps, fraction, not_changes, not_steps, slow_power, slow_sum, undoable,
)

X, Y = Poly.x(), Poly.y()
NUMBER = Poly.number
LARGE = 10 ** 30 + 57


def product(i, j, amount=1):
    return Poly([(i, j, amount)])


def slow_taken(change, step):
    place, number, many = step
    halves = [amounts(change.first), amounts(change.second)]
    halves[place] = slow_sum(halves[place], slow_power(halves[1 - place], many), -fraction(number))
    return halves


def slow_degree(table):
    return max([i + j for i, j in table], default=-1)


def slow_own_step(change):
    """Of all steps with the power of the degrees the one that makes the half's degree less, found by trying."""
    halves = [amounts(change.first), amounts(change.second)]
    degrees = [slow_degree(half) for half in halves]
    if max(degrees) < 2:
        return None
    place = 0 if degrees[0] >= degrees[1] else 1
    if degrees[1 - place] < 1 or degrees[place] % degrees[1 - place]:
        return None
    many = degrees[place] // degrees[1 - place]
    raised = slow_power(halves[1 - place], many)
    powers = max([powers for powers in raised if sum(powers) == degrees[place]])
    number = halves[place].get(powers, 0) / raised[powers]
    if number == 0 or slow_degree(slow_sum(halves[place], raised, -number)) >= degrees[place]:
        return None
    return place, number, many


class IsStepTest(Case):
    def test_steps(self):
        for value in ((0, 1, 1), (1, -3, 18), (0, Ratio(1, 2), 2), (1, LARGE, 5), (0, Ratio(-7), 18)):
            self.assert_bool(is_step(value), True)
            self.assert_bool(is_step(value=value), True)

    def test_all_else(self):
        for wrong in not_steps():
            with self.subTest(wrong):
                self.assert_bool(is_step(wrong), False)


class TakenTest(Case):
    def test_what_is_left(self):
        draw = Draw(121)
        for step in drawn_steps(122, 60):
            change = draw.change(4)
            found = taken(change, step)
            self.assertIs(found.__class__, Change)
            wanted = slow_taken(change, step)
            self.assert_poly(found.first, wanted[0])
            self.assert_poly(found.second, wanted[1])
            self.assertEqual(taken(step=step, change=change), found)

    def test_the_step_with_the_contrary_number_leads_back(self):
        draw = Draw(123)
        for place, number, many in drawn_steps(124, 40):
            change = draw.change(4)
            back = (place, -number, many)
            self.assertEqual(taken(taken(change, (place, number, many)), back), change)

    def test_it_is_a_change_behind(self):
        draw = Draw(125)
        for step in drawn_steps(126, 40):
            change = draw.change(3)
            behind = taken(Change.same(), step)
            self.assertEqual(behind.behind(change), taken(change, step))
            self.assertEqual(jacobian(taken(change, step)), jacobian(change))

    def test_examples(self):
        self.assertEqual(taken(Change.same(), (0, -1, 2)), Change(X + Y * Y, Y))
        self.assertEqual(taken(Change.same(), (1, Ratio(1, 2), 1)), Change(X, Y - X.scaled(Ratio(1, 2))))
        self.assertEqual(taken(Change(X, NUMBER(2)), (0, 1, 18)), Change(X - NUMBER(2 ** 18), NUMBER(2)))
        self.assertEqual(taken(Change(Poly(), Y), (1, 5, 18)), Change(Poly(), Y))
        self.assertEqual(taken(Change(X, X), (0, 1, 1)), Change(Poly(), X))

    def test_degree_eighteen_and_above(self):
        self.assert_integer(taken(Change.same(), (0, 1, 18)).degree, 18)
        self.assert_integer(taken(Change(X, product(9, 0)), (0, 1, 2)).degree, 18)
        self.assert_integer(taken(Change(product(18, 0), Y), (1, 1, 1)).degree, 18)
        self.assert_integer(taken(Change(product(18, 0), Y), (0, 1, 18)).degree, 18)
        self.assert_integer(taken(Change(product(18, 0), NUMBER(3)), (0, 1, 18)).degree, 18)
        self.assert_integer(taken(Change(product(18, 0), Poly()), (0, 1, 18)).degree, 18)
        # Here all of it cancels in the end.
        nine = product(9, 0) * product(0, 9)
        self.assertEqual(taken(Change(nine, nine), (0, 1, 1)), Change(Poly(), nine))
        for change, step in (
            (Change(X, X * Y), (0, 1, 10)),
            (Change(X, product(10, 0)), (0, 1, 2)),
            (Change(product(18, 0), Y), (1, 1, 2)),
            (Change(product(3, 4), Y), (1, Ratio(1, 2), 3)),
            (Change(product(18, 0), product(18, 0)), (0, 1, 18)),
        ):
            self.refused_degree(18, taken, change, step)
            self.refused_degree(18, taken, step=step, change=change)

    def test_wrong_values(self):
        for wrong in not_changes():
            with self.subTest(wrong):
                self.refused_value(InvalidChange, wrong, taken, wrong, (0, 1, 1))
                self.refused_value(InvalidChange, wrong, taken, wrong, "step")
                self.refused_value(InvalidChange, wrong, taken, step=(2, 1, 1), change=wrong)
                for function in (own_steps, led):
                    self.refused_value(InvalidChange, wrong, function, wrong)
                    self.refused_value(InvalidChange, wrong, function, change=wrong)
        for wrong in not_steps():
            with self.subTest(wrong):
                self.refused_value(InvalidStep, wrong, taken, Change.same(), wrong)
                self.refused_value(InvalidStep, wrong, taken, step=wrong, change=Change(product(18, 0), product(18, 0)))


class OwnStepsTest(Case):
    def check(self, change):
        """Goes through the steps with a slow way of finding each."""
        steps, left = own_steps(change), change
        self.assertIs(steps.__class__, list)
        for step in steps:
            self.assertIs(step.__class__, tuple)
            place, number, many = slow_own_step(left)
            self.assert_integer(step[0], place)
            self.assert_ratio(step[1], number)
            self.assert_integer(step[2], many)
            self.assert_bool(is_step(step), True)
            left = taken(left, step)
        self.assertIsNone(slow_own_step(left))
        self.assertEqual(led(change), left)
        self.assertIs(led(change).__class__, Change)

    def test_of_drawn_changes(self):
        draw = Draw(131)
        for _ in range(80):
            self.check(draw.change(4))

    def test_of_drawn_changes_led_on_by_steps(self):
        draw = Draw(132)
        steps = drawn_steps(133, 60)
        for at in range(0, 60, 2):
            change = draw.change(2)
            for step in steps[at:at + 2]:
                if max(change.first.degree, change.second.degree) <= 6:
                    change = taken(change, step)
            self.check(change)

    def test_what_can_be_undone_is_led_to_a_straight_one(self):
        for change in undoable(134, 25):
            self.check(change)
            self.assert_bool(is_straight(led(change)), True)
            self.assert_integer(jacobian(change).degree, 0)
            self.assertEqual(jacobian(led(change)), jacobian(change))

    def test_degrees_fall(self):
        for change in undoable(135, 15):
            left = change
            for step in own_steps(change):
                halves = [left.first.degree, left.second.degree]
                left = taken(left, step)
                self.assertLess([left.first.degree, left.second.degree][step[0]], halves[step[0]])

    def test_examples(self):
        bent = Change(X + (Y + X * X) * (Y + X * X), Y + X * X)
        self.assertEqual(own_steps(change=bent), [(0, Ratio(1), 2), (1, Ratio(1), 2)])
        self.assertEqual(led(change=bent), Change.same())
        self.assertEqual(own_steps(Change(X, Y + X * X * X)), [(1, Ratio(1), 3)])
        self.assertEqual(led(Change(X.scaled(2), Y + X * X)), Change(X.scaled(2), Y))
        self.assertEqual(own_steps(Change(X.scaled(2), Y + X * X)), [(1, Ratio(1, 4), 2)])

    def test_alike_degrees_lead_the_first_half(self):
        self.assertEqual(own_steps(Change(X * X, (X * X).scaled(4) + Y)), [(0, Ratio(1, 4), 1)])
        self.assertEqual(led(Change(X * X, (X * X).scaled(4) + Y)), Change(Y.scaled(Ratio(-1, 4)), (X * X).scaled(4) + Y))
        self.assertEqual(own_steps(Change(X * X + Y, X * X)), [(0, Ratio(1), 1)])

    def test_where_there_is_none(self):
        for change in (
            Change.same(), Change(Poly(), Poly()), Change(NUMBER(1), NUMBER(2)), Change(X, X), Change(X, NUMBER(5)),
            Change(X * X, Poly()), Change(Poly(), X * X), Change(X * X, NUMBER(2)), Change(NUMBER(2), X * Y),
            Change(X * X * X, Y * Y), Change(Y * Y, X * X * X), Change(X + X * X * Y, Y), Change(X * X, X * Y),
            Change(X * Y, X + Y), Change(X * X + Y * Y, X), Change(product(18, 0), product(0, 9)),
        ):
            with self.subTest(change):
                self.assert_alike(own_steps(change), [])
                self.assertEqual(led(change), change)

    def test_of_degree_eighteen(self):
        wide = shear((0, 1), [0, 0, 0, 1]).behind(shear((1, 0), [0] * 6 + [2]))
        self.assert_integer(wide.degree, 18)
        self.assertEqual(own_steps(wide), [(1, Ratio(1), 3), (0, Ratio(2), 6)])
        self.assertEqual(own_steps(shear((0, 1), [0] * 18 + [5])), [(1, Ratio(5), 18)])
        whole = shear((1, 3), [0] * 18 + [1])
        self.assertEqual(own_steps(whole)[0], (0, Ratio(1, 3), 1))
        self.assert_bool(is_straight(led(whole)), True)

    def test_told_lists_are_new_and_nothing_is_changed(self):
        bent = Change(X, Y + X * X)
        own_steps(bent).append(5)
        self.assertEqual(own_steps(bent), [(1, Ratio(1), 2)])
        self.assertEqual(bent, Change(X, Y + X * X))
