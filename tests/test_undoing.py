"""straightened.undoing: points 35 and 36."""

from fractions import Fraction

from straightened.changes import Change, jacobian
from straightened.errors import InvalidChange, InvalidPoint, NotUndone
from straightened.polys import Poly
from straightened.ratios import Ratio
from straightened.shears import shear
from straightened.stops import can_be_undone
from straightened.straights import straight, undone_straight
from straightened.undoing import is_uneven, undone, undone_at, uneven
from tests.helpers import (
    Case, Draw, amounts, flat_and_bent, fraction, not_changes, not_lists, not_points, pair, slow_worth, undoable,
)

X, Y = Poly.x(), Poly.y()
NUMBER = Poly.number
STUCK = flat_and_bent()[:6] + [
    Change(X + X * X * Y, Y), Change(X * X * X, Y * Y), Change(X * X, NUMBER(5)), Change(Poly([(18, 0, 1)]), X * Y),
]
REFUSED = [
    Change(Poly([(18, 0, 1)]), Poly([(0, 3, 1)])), Change(Poly([(10, 1, 1)]), Poly([(0, 10, 1)])),
    Change(Poly([(18, 0, 1)]), Poly([(18, 0, 1), (0, 18, 2)])),
]


def slow_derived(table, place):
    """What a table of amounts is derived to by x (place 0) or by y."""
    found = {}
    for powers in table:
        if powers[place]:
            lower = (powers[0] - 1, powers[1]) if place == 0 else (powers[0], powers[1] - 1)
            found[lower] = table[powers] * powers[place]
    return found


def slow_jacobian_at(change, point):
    first, second = amounts(change.first), amounts(change.second)
    x, y = pair(point)
    parts = [slow_worth(slow_derived(half, place), x, y) for half in (first, second) for place in (0, 1)]
    return parts[0] * parts[3] - parts[1] * parts[2]


class UndoneTest(Case):
    def check(self, change):
        found = undone(change)
        self.assertIs(found.__class__, Change)
        self.assertEqual(found.degree, change.degree)
        draw = Draw(300)
        for _ in range(2):
            point = draw.point()
            self.assert_pair(found.at(change.at(point)), point)
            self.assert_pair(change.at(found.at(point)), point)
            self.assert_pair(undone_at(change, change.at(point)), point)
            self.assert_pair(undone_at(point=point, change=change), found.at(point))
        return found

    def test_of_drawn_changes(self):
        for change in undoable(301, 40):
            self.assertEqual(undone(undone(change=change)), change)
            found = self.check(change)
            if change.degree <= 4:
                self.assertEqual(found.behind(change), Change.same())
                self.assertEqual(change.behind(found), Change.same())

    def test_both_ways_as_changes(self):
        draw = Draw(302)
        for _ in range(40):
            line = [draw.number(), draw.number(), draw.number(), draw.but_nought(), draw.but_nought()][draw.below(3):]
            change = straight(draw.rows(), draw.point()).behind(shear(draw.direction(), line))
            change = change.behind(straight(draw.rows(), draw.point()))
            found = self.check(change)
            self.assertEqual(found.behind(change), Change.same())
            self.assertEqual(change.behind(found), Change.same())

    def test_of_degree_eighteen(self):
        lines = [[0, 0, 1, 2], [0, 0, -1, 3], [0, 5, 2]]
        change = Change.same()
        for at, line in enumerate(lines):
            change = shear([(0, 1), (1, 0), (1, 2)][at], line).behind(change)
        self.assertEqual(change.degree, 18)
        turn = straight([[1, 2], [3, 4]], (5, 6))
        for one in (change, turn.behind(change), change.behind(turn), shear((1, 3), [0] * 18 + [1])):
            self.assertEqual(undone(undone(one)), one)
            self.check(one)
        whole = shear((0, 1), list(range(19)))
        self.assertEqual(undone(whole), shear((0, 1), [-number for number in range(19)]))

    def test_straight_ones(self):
        draw = Draw(303)
        for _ in range(20):
            change = straight(draw.rows(), draw.point())
            self.assertEqual(undone(change), undone_straight(change))
            self.check(change)
        self.assertEqual(undone(Change.same()), Change.same())

    def test_not_undone(self):
        for change in STUCK:
            with self.subTest(change):
                self.refused(NotUndone, {}, undone, change)
                self.refused(NotUndone, {}, undone, change=change)
                self.refused(NotUndone, {}, undone_at, change, (1, Ratio(2)))
                self.refused(NotUndone, {}, undone_at, point=(1, 2), change=change)

    def test_wrong_values(self):
        for wrong in not_changes():
            with self.subTest(wrong):
                for function in (undone, uneven):
                    self.refused_value(InvalidChange, wrong, function, wrong)
                    self.refused_value(InvalidChange, wrong, function, change=wrong)
                self.refused_value(InvalidChange, wrong, undone_at, wrong, (1, 2))
                self.refused_value(InvalidChange, wrong, undone_at, point=[1, 2], change=wrong)
                self.refused_value(InvalidChange, wrong, is_uneven, wrong, ((0, 0), (0, 1)))
                self.refused_value(InvalidChange, wrong, is_uneven, value=None, change=wrong)
        for wrong in not_points():
            with self.subTest(wrong):
                self.refused_value(InvalidPoint, wrong, undone_at, Change.same(), wrong)
                self.refused_value(InvalidPoint, wrong, undone_at, point=wrong, change=STUCK[1])


class UnevenTest(Case):
    def check(self, change):
        found = uneven(change)
        self.assertIs(found.__class__, tuple)
        self.assertEqual(len(found), 2)
        for point in found:
            self.assert_pair(point, point)
            for number in point:
                self.assertLess(len(str(number)), 2000)
        self.assertNotEqual(slow_jacobian_at(change, found[0]), slow_jacobian_at(change, found[1]))
        self.assert_bool(is_uneven(change, found), True)
        self.assertEqual(uneven(change=change), found)
        self.assert_bool(can_be_undone(change), False)

    def test_of_drawn_changes(self):
        draw, many = Draw(311), 0
        for _ in range(150):
            change = draw.change(4)
            if jacobian(change).degree < 1:
                self.assertIsNone(uneven(change))
            else:
                many += 1
                self.check(change)
        self.assertGreater(many, 50)

    def test_where_the_jacobian_is_a_number(self):
        for change in undoable(312, 15) + flat_and_bent()[:7] + [Change(X * X, X * X + NUMBER(1))]:
            if max(change.first.degree, 1) + max(change.second.degree, 1) <= 20:
                self.assertIsNone(uneven(change))
                for points in (((0, 0), (0, 1)), ((1, 2), (3, Ratio(4, 5)))):
                    self.assert_bool(is_uneven(change, points), False)

    def test_where_the_jacobian_is_nought_at_many_points(self):
        wide = NUMBER(1)
        for number in range(17):
            wide = wide * (X - NUMBER(number))
        first = Poly([(i + 1, j, amount.over(i + 1)) for i, j, amount in wide.entries()])
        self.assertEqual(jacobian(Change(first, Y)), wide)
        self.check(Change(first, Y))
        turned = Poly([(j, i, amount) for i, j, amount in first.entries()])
        self.check(Change(turned, X))
        # x (x - 1) .. (x - 17), of degree 18: the second half is x y.
        wide = NUMBER(1)
        for number in range(1, 18):
            wide = wide * (X - NUMBER(number))
        first = Poly([(i + 1, j, amount.over(i + 1)) for i, j, amount in wide.entries()])
        self.assertEqual(jacobian(Change(first, X * Y)), wide * X)
        self.check(Change(first, X * Y))
        # x (x - 1) .. (x - 8) y (y - 1) .. (y - 7) is nought at all points of a square.
        square = NUMBER(1)
        for number in range(8):
            square = square * (X - NUMBER(number)) * (Y - NUMBER(number))
        square = square * (X - NUMBER(8))
        first = Poly([(i + 1, j, amount.over(i + 1)) for i, j, amount in square.entries()])
        self.check(Change(first, Y))

    def test_is_uneven(self):
        stuck = Change(X + X * X * Y, Y)
        for points, wanted in (
            (((0, 0), (0, 1)), False), (((1, 0), (1, 1)), True), (((1, 1), (1, 1)), False), (((2, 3), (3, 2)), False),
            (((Ratio(1, 2), 2), (1, 1)), False), (((Ratio(1, 2), 3), (1, Ratio(1))), True), (((0, 5), (7, 0)), False),
        ):
            self.assert_bool(is_uneven(stuck, points), wanted)
            self.assert_bool(is_uneven(value=points, change=stuck), wanted)
        draw = Draw(313)
        for _ in range(80):
            change, points = draw.change(3), (draw.point(), draw.point())
            wanted = slow_jacobian_at(change, points[0]) != slow_jacobian_at(change, points[1])
            self.assert_bool(is_uneven(change, points), wanted)

    def test_values_of_all_kinds(self):
        stuck = Change(X + X * X * Y, Y)
        wrongs = not_lists() + [((1, 0), wrong) for wrong in not_points()] + [(wrong, (1, 0)) for wrong in not_points()]
        wrongs += [(), ((1, 0),), [(1, 0), (1, 1)], ((1, 0), (1, 1), (1, 2)), ([1, 0], [1, 1]), ((1, False), (1, True))]
        for wrong in wrongs:
            with self.subTest(wrong):
                self.assert_bool(is_uneven(stuck, wrong), False)

    def test_where_the_jacobian_is_refused(self):
        for change in REFUSED:
            self.refused_degree(18, jacobian, change)
            self.refused_degree(18, uneven, change)
            for value in (((0, 0), (1, 1)), ((0, 0), (0, 0)), None, "points", []):
                self.refused_degree(18, is_uneven, change, value)
                self.refused_degree(18, is_uneven, value=value, change=change)

    def test_points_are_told_as_the_fractions_of_the_package(self):
        found = uneven(Change(X * Y, X + NUMBER(Ratio(1, 3))))
        self.assertEqual([[number.__class__ for number in point] for point in found], [[Ratio, Ratio]] * 2)
        self.assertEqual(fraction(found[0][0]) * 0, Fraction(0))
