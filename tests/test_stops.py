"""straightened.stops: points 33 and 34."""

from straightened.changes import Change
from straightened.errors import InvalidChange
from straightened.polys import Poly
from straightened.ratios import Ratio
from straightened.steps import led, own_steps, taken
from straightened.stops import can_be_undone, is_steps, is_stop, stop
from straightened.straights import is_straight, straight
from tests.helpers import Case, Draw, drawn_steps, flat_and_bent, not_changes, not_lists, not_steps, strange, undoable

X, Y = Poly.x(), Poly.y()
NUMBER = Poly.number
KINDS = ("flat", "number", "degrees", "heads")


def product(i, j, amount=1):
    return Poly([(i, j, amount)])


STUCK = [
    ("flat", Change(Poly(), Poly())), ("flat", Change(NUMBER(2), NUMBER(3))), ("flat", Change(X, X)),
    ("flat", Change(X, NUMBER(5))), ("flat", Change(Poly(), Y)), ("flat", Change(X - Y, (Y - X).scaled(Ratio(1, 2)))),
    ("number", Change(X * X, NUMBER(5))), ("number", Change(Poly(), X * Y)), ("number", Change(product(18, 0), Poly())),
    ("number", Change(NUMBER(-1), Y * Y + X)),
    ("degrees", Change(X * X * X, Y * Y)), ("degrees", Change(X * X, Y * Y * Y)),
    ("degrees", Change(product(18, 0), product(0, 12))), ("degrees", Change(product(2, 3), X * Y + X)),
    ("heads", Change(X + X * X * Y, Y)), ("heads", Change(X * X, X * Y)), ("heads", Change(X * Y, X + Y)),
    ("heads", Change(X * X + Y * Y, X)), ("heads", Change(Y, X * X)), ("heads", Change(product(18, 0), product(0, 9))),
    ("heads", Change(product(9, 9), product(9, 9) + X * product(0, 17))),
]


def steps_that_can_be_taken(change, seed, many, most=3):
    """Drawn steps with which no half's degree comes above 6, and the change that they leave."""
    found = []
    for place, number, power in drawn_steps(seed, many, most):
        other = change.second if place == 0 else change.first
        if max(other.degree, 0) * power <= 6:
            found.append((place, number, power))
            change = taken(change, found[-1])
    return found, change


class StopTest(Case):
    def test_of_stuck_changes(self):
        for kind, change in STUCK:
            with self.subTest(change):
                self.assert_alike(stop(change), kind)
                self.assert_alike(stop(change=change), kind)
                self.assert_bool(can_be_undone(change), False)
                self.assert_bool(can_be_undone(change=change), False)

    def test_of_what_can_be_undone(self):
        for change in undoable(201, 25) + [Change.same(), Change(Y, X), Change(X, Y + product(18, 0))]:
            self.assertIsNone(stop(change))
            self.assert_bool(can_be_undone(change), True)

    def test_it_is_that_of_what_the_change_is_led_to(self):
        draw, kinds = Draw(202), []
        for _ in range(120):
            change = draw.change(3)
            found = stop(change)
            self.assertEqual(found, stop(led(change)))
            self.assertEqual(found is None, is_straight(led(change)))
            kinds.append(found)
        for kind in KINDS:
            self.assertIn(kind, kinds)

    def test_what_any_steps_leave_can_be_undone_exactly_if_the_change_can(self):
        for at, (kind, change) in enumerate(STUCK):
            left = steps_that_can_be_taken(change, 210 + at, 8, 2)[1]
            self.assert_bool(can_be_undone(left), False)
            if kind == "flat":
                self.assertIn(stop(left), ("flat", "number", "degrees", "heads"))
        for at in range(15):
            change = straight(Draw(230 + at).rows(), (1, at))
            self.assert_bool(can_be_undone(steps_that_can_be_taken(change, 240 + at, 6)[1]), True)

    def test_own_steps_end_at_the_stop(self):
        bent = taken(taken(Change(X * X, Y * Y * Y), (0, 2, 1)), (1, 3, 2))
        self.assertGreater(len(own_steps(bent)), 0)
        self.assertEqual(stop(bent), "degrees")
        self.assertEqual(stop(taken(Change(X, X), (0, 1, 5))), "flat")
        self.assertEqual(stop(Change(X * X, X * X + NUMBER(2))), "number")
        self.assertEqual(stop(Change(X * X + X, X * X + NUMBER(2))), "flat")

    def test_wrong_changes(self):
        for wrong in not_changes():
            with self.subTest(wrong):
                for function in (stop, can_be_undone):
                    self.refused_value(InvalidChange, wrong, function, wrong)
                    self.refused_value(InvalidChange, wrong, function, change=wrong)
                for function in (is_steps, is_stop):
                    self.refused_value(InvalidChange, wrong, function, wrong, [])
                    self.refused_value(InvalidChange, wrong, function, value=None, change=wrong)


class IsStepsTest(Case):
    def test_own_steps_and_others(self):
        for at, change in enumerate(undoable(251, 15)):
            steps = own_steps(change)
            self.assert_bool(is_steps(change, steps), True)
            self.assert_bool(is_steps(value=tuple(steps), change=change), True)
            others = [(0, at + 1, 1), (1, Ratio(1, 3), 1), (1, Ratio(-1, 3), 1), (0, -at - 1, 1)]
            self.assert_bool(is_steps(change, others + steps), True)
            self.assert_bool(is_steps(change, steps + others + [(0, 5, 1)]), True)
            self.assert_bool(is_steps(change, steps + [(0, 1, 2), (0, -1, 2)]), True)
            self.assert_bool(is_stop(change, (steps, "flat")), False)

    def test_one_thing_changed_for_the_worse(self):
        for change in undoable(252, 12):
            steps = own_steps(change)
            self.assert_bool(is_steps(change, steps[:-1]), False)
            self.assert_bool(is_steps(change, steps + [(0, 1, 2)]), False)
            place, number, many = steps[0]
            if many > 1:
                self.assert_bool(is_steps(change, [(place, number + 1, many)] + steps[1:]), False)
                self.assert_bool(is_steps(change, [(1 - place, number, many)] + steps[1:]), False)
            self.assert_bool(is_steps(change, steps + [(0, 0, 1)]), False)
            self.assert_bool(is_steps(change, steps + [(0, True, 1)]), False)
            self.assert_bool(is_steps(change, steps + [(False, 1, 1)]), False)
            self.assert_bool(is_steps(change, steps + [[0, 1, 1]]), False)

    def test_straight_and_flat_ones_as_they_stand(self):
        for change in (Change.same(), Change(Y, X), straight([[1, 2], [3, 4]], (5, Ratio(1, 6)))):
            for steps in ([], (), [(0, 1, 1)]):
                self.assert_bool(is_steps(change, steps), True)
        for change in flat_and_bent():
            self.assert_bool(is_steps(change, []), False)
        self.assert_bool(is_steps(Change.same(), [(0, 1, 2)]), False)
        self.assert_bool(is_steps(Change(Y, X), [(0, 1, 18), (1, 1, 2), (1, -1, 2), (0, -1, 18)]), False)

    def test_sixty_steps_and_one_more(self):
        there_and_back = [(0, 1, 18), (0, -1, 18)] * 29
        for more, wanted in ((2, True), (3, False)):
            steps = there_and_back + [(1, 1, 1)] * more
            self.assert_bool(is_steps(Change.same(), steps), wanted)
            self.assert_bool(is_steps(Change.same(), tuple(steps)), wanted)
        self.assert_bool(is_steps(Change.same(), [(0, 3, 1), (1, Ratio(-2, 7), 1)] * 30), True)

    def test_what_cannot_be_taken(self):
        self.assert_bool(is_steps(Change(X, Y + X * X), [(0, 1, 9), (0, -1, 9), (1, 1, 2)]), True)
        self.assert_bool(is_steps(Change(X, Y + X * X), [(0, 1, 10), (0, -1, 10), (1, 1, 2)]), False)
        self.assert_bool(is_steps(Change(X, Y + product(18, 0)), [(0, 1, 1), (1, 1, 2), (1, -1, 2)]), False)

    def test_what_cannot_be_undone(self):
        for at, (_, change) in enumerate(STUCK):
            self.assert_bool(is_steps(change, steps_that_can_be_taken(change, 260 + at, 5, 2)[0]), False)
        self.assert_bool(is_steps(Change(NUMBER(2), NUMBER(3)), [(0, 1, 18), (1, 1, 18)] * 30), False)

    def test_values_of_all_kinds(self):
        for wrong in not_lists() + [[wrong] for wrong in not_steps()] + [(wrong,) for wrong in not_steps()] + [[[]], (0, 1, 2)]:
            with self.subTest(wrong):
                self.assert_bool(is_steps(Change.same(), wrong), False)


class IsStopTest(Case):
    def test_own_steps_and_others(self):
        for at, (kind, change) in enumerate(STUCK):
            for name in KINDS:
                self.assert_bool(is_stop(change, ([], name)), name == kind)
                self.assert_bool(is_stop(change=change, value=((), name)), name == kind)
            there = [step for step in drawn_steps(270 + at, 3, 1)]
            back = [(place, -number, many) for place, number, many in there[::-1]]
            self.assert_bool(is_stop(change, (there + back, kind)), True)
            self.assert_bool(is_stop(change, (own_steps(change), kind)), True)
            left = steps_that_can_be_taken(change, 280 + at, 4, 2)
            self.assert_bool(is_stop(change, (left[0] + own_steps(left[1]), stop(left[1]))), True)

    def test_the_change_that_is_left_is_stuck(self):
        bent = taken(Change(X + X * X * Y, Y), (1, 3, 2))
        self.assert_bool(is_stop(bent, ([], "heads")), False)
        self.assert_bool(is_stop(bent, (own_steps(bent), "heads")), True)
        self.assert_bool(is_stop(bent, ([(1, -3, 2)], "heads")), True)
        self.assert_bool(is_stop(bent, ([(1, -3, 2)], "degrees")), False)
        self.assert_bool(is_stop(bent, ([(1, -2, 2)], "heads")), False)
        for kind in KINDS:
            self.assert_bool(is_stop(Change(X, X), ([(0, 1, 2)], kind)), False)
            self.assert_bool(is_stop(Change(X, NUMBER(5)), ([(0, 1, 2)], kind)), kind == "flat")

    def test_never_both(self):
        for change in undoable(291, 8):
            steps = own_steps(change)
            for kind in KINDS:
                for end in (steps, [], steps[:-1], steps + [(0, 1, 3)]):
                    self.assert_bool(is_stop(change, (end, kind)), False)

    def test_sixty_steps_and_one_more(self):
        change = Change(X + X * X * Y, Y)
        steps = [(1, 3, 1), (1, -3, 1)] * 30
        self.assert_bool(is_stop(change, (steps, "heads")), True)
        self.assert_bool(is_stop(change, (steps + [(1, 1, 1)], "heads")), False)
        self.assert_bool(is_stop(change, (steps[:-1] + [(1, -3, 7), (1, 3, 7)], "heads")), False)
        # Of two numbers steps leave two numbers, however large these would be.
        large = [(0, 1, 18), (1, 7, 18)] * 30
        self.assert_bool(is_stop(Change(NUMBER(2), NUMBER(3)), (large, "flat")), True)
        self.assert_bool(is_stop(Change(NUMBER(2), NUMBER(3)), (large + [(0, 1, 1)], "flat")), False)
        self.assert_bool(is_stop(Change(NUMBER(2), NUMBER(3)), (large, "number")), False)

    def test_what_cannot_be_taken(self):
        change = Change(X * X, X * Y)
        self.assert_bool(is_stop(change, ([(0, 1, 9), (0, -1, 9)], "heads")), True)
        self.assert_bool(is_stop(change, ([(0, 1, 10), (0, -1, 10)], "heads")), False)

    def test_values_of_all_kinds(self):
        change = Change(X + X * X * Y, Y)
        wrongs = not_lists() + [(wrong, "heads") for wrong in not_lists()] + [([wrong], "heads") for wrong in not_steps()]
        wrongs += [([], wrong) for wrong in strange() + [0, 1, None, "Heads", "heads ", "head", ["heads"], ("heads",)]]
        wrongs += [(), ([],), ([], "heads", 1), [[], "heads"], ("heads", []), "heads", [], ([], b"heads")]
        for wrong in wrongs:
            with self.subTest(wrong):
                self.assert_bool(is_stop(change, wrong), False)
                self.assert_bool(is_stop(value=wrong, change=Change.same()), False)
