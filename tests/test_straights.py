"""straightened.straights: points 23 and 24, and what is straight of point 6."""

from straightened.changes import Change, jacobian
from straightened.errors import InvalidChange, InvalidPoint, InvalidPoints, InvalidRows, NotStraight, StateError
from straightened.polys import Poly
from straightened.ratios import Ratio
from straightened.straights import determinant, is_straight, leading, straight, undone_straight
from tests.helpers import Case, Draw, fraction, not_changes, not_lists, not_numbers, not_points, without_noughts

X, Y = Poly.x(), Poly.y()
NUMBER = Poly.number

FLAT = [
    Change(Poly(), Poly()), Change(NUMBER(1), NUMBER(2)), Change(X, X), Change(X, NUMBER(5)), Change(NUMBER(5), Y),
    Change(X + Y, X.scaled(2) + Y.scaled(2) + NUMBER(1)), Change(Poly(), Y), Change(X, Poly()),
]
BENT = [Change(X + Y * Y, Y), Change(X, X * Y), Change(X * X, Poly()), Change(Poly([(18, 0, 1)]), Y)]


def drawn(seed, many):
    draw = Draw(seed)
    return [straight(draw.rows(), draw.point()) for _ in range(many)]


def on_one_line(points):
    (a, b), (c, d), (e, f) = [[fraction(number) for number in point] for point in points]
    return (c - a) * (f - b) == (d - b) * (e - a)


class StraightTest(Case):
    def test_made_of_rows_and_a_point(self):
        draw = Draw(71)
        for _ in range(60):
            rows, point = [[draw.number(), draw.number()], [draw.number(), draw.number()]], draw.point()
            found = straight(rows, point)
            self.assertIs(found.__class__, Change)
            for row, alone, half in zip(rows, point, (found.first, found.second)):
                wanted = {(1, 0): fraction(row[0]), (0, 1): fraction(row[1]), (0, 0): fraction(alone)}
                self.assert_poly(half, without_noughts(wanted))
            self.assertEqual(straight(point=point, rows=tuple([tuple(row) for row in rows])), found)

    def test_of_whatever_determinant(self):
        self.assertEqual(straight([[0, 0], [0, 0]], (0, 0)), Change(Poly(), Poly()))
        self.assertEqual(straight([(1, 2), [2, 4]], (3, Ratio(1, 2))).degree, 1)
        self.assert_bool(is_straight(straight([[1, 2], [2, 4]], (0, 0))), False)

    def test_wrong_rows(self):
        pairs = [[1, wrong] for wrong in not_numbers()] + [[wrong, 1] for wrong in not_numbers()]
        pairs += not_lists() + [[], [1], [1, 2, 3], (1,), "12"]
        wrongs = [[pair, [1, 2]] for pair in pairs] + [([1, 2], pair) for pair in pairs]
        wrongs += not_lists() + [[], [[1, 2]], [[1, 2]] * 3, [1, 2, 3, 4], [[1, 2], [3, True]], [[False, 2], [3, 1]]]
        for wrong in wrongs:
            with self.subTest(wrong):
                self.refused_value(InvalidRows, wrong, straight, wrong, (0, 0))
                self.refused_value(InvalidRows, wrong, straight, wrong, "a point")
                self.refused_value(InvalidRows, wrong, straight, point=(True, 0), rows=wrong)

    def test_wrong_points(self):
        for wrong in not_points():
            with self.subTest(wrong):
                self.refused_value(InvalidPoint, wrong, straight, [[1, 0], [0, 1]], wrong)
                self.refused_value(InvalidPoint, wrong, straight, point=wrong, rows=((0, 0), (0, 0)))

    def test_what_is_passed_stays(self):
        rows = [[1, Ratio(1, 2)], [0, 1]]
        straight(rows, (1, 2))
        self.assertEqual(repr(rows), "[[1, Ratio(1, 2)], [0, 1]]")

    def test_is_straight(self):
        for change in drawn(72, 30) + [Change.same(), Change(Y, X), Change(X, Y.scaled(Ratio(-1, 3)))]:
            self.assert_bool(is_straight(change), True)
            self.assert_bool(is_straight(change=change), True)
        for change in FLAT + BENT:
            self.assert_bool(is_straight(change), False)

    def test_determinant(self):
        draw = Draw(73)
        for _ in range(60):
            a, b, c, d = [draw.number() for _ in range(4)]
            found = determinant(straight([[a, b], [c, d]], draw.point()))
            self.assert_ratio(found, fraction(a) * fraction(d) - fraction(b) * fraction(c))
        for change in FLAT:
            self.assert_ratio(determinant(change), 0)
        self.assert_ratio(determinant(change=Change(Y, X)), -1)

    def test_the_jacobian_is_the_determinant(self):
        for change in drawn(74, 20) + FLAT:
            self.assertEqual(jacobian(change), NUMBER(determinant(change)))

    def test_behind_one_another(self):
        changes = drawn(75, 12)
        for one in changes:
            for two in changes:
                both = one.behind(two)
                self.assert_bool(is_straight(both), True)
                self.assertEqual(determinant(both), determinant(one) * determinant(two))

    def test_determinants_of_what_is_bent(self):
        for change in BENT:
            self.refused(NotStraight, {}, determinant, change)
            self.refused(NotStraight, {}, determinant, change=change)
        self.assertTrue(issubclass(NotStraight, StateError))

    def test_wrong_changes(self):
        for wrong in not_changes():
            with self.subTest(wrong):
                for function in (is_straight, determinant, undone_straight):
                    self.refused_value(InvalidChange, wrong, function, wrong)
                    self.refused_value(InvalidChange, wrong, function, change=wrong)


class UndoneTest(Case):
    def test_both_ways(self):
        for change in drawn(76, 50) + [Change.same(), Change(Y, X)]:
            back = undone_straight(change)
            self.assertIs(back.__class__, Change)
            self.assertEqual(back.behind(change), Change.same())
            self.assertEqual(change.behind(back), Change.same())
            self.assertEqual(undone_straight(change=back), change)

    def test_points_come_back(self):
        draw = Draw(77)
        for change in drawn(78, 30):
            point = draw.point()
            self.assert_pair(undone_straight(change).at(change.at(point)), point)

    def test_example(self):
        change = straight([[1, 2], [3, 5]], (7, -1))
        self.assertEqual(undone_straight(change), straight([[-5, 2], [3, -1]], (37, -22)))

    def test_what_is_not_straight(self):
        for change in FLAT + BENT:
            self.refused(NotStraight, {}, undone_straight, change)
            self.refused(NotStraight, {}, undone_straight, change=change)

    def test_determinant_nought_leads_unlike_points_to_one(self):
        flat = straight([[1, 2], [2, 4]], (1, 1))
        self.assertEqual(flat.at((2, 0)), flat.at((0, 1)))


class LeadingTest(Case):
    BASE = [(0, 0), (1, 0), (0, 1)]

    def test_each_point_is_led_to_the_one_at_its_place(self):
        draw = Draw(79)
        done = 0
        while done < 60:
            points, others = [draw.point() for _ in range(3)], [draw.point() for _ in range(3)]
            if on_one_line(points):
                continue
            done += 1
            found = leading(points, others)
            self.assertIs(found.__class__, Change)
            self.assertLessEqual(found.degree, 1)
            for point, other in zip(points, others):
                self.assert_pair(found.at(point), other)
            self.assert_bool(is_straight(found), not on_one_line(others))
            self.assertEqual(leading(others=tuple(others), points=tuple(points)), found)

    def test_it_is_the_only_one(self):
        draw = Draw(80)
        for change in drawn(81, 20) + FLAT:
            points = [draw.point() for _ in range(3)]
            while on_one_line(points):
                points = [draw.point() for _ in range(3)]
            self.assertEqual(leading(points, [change.at(point) for point in points]), change)

    def test_others_on_one_straight_line(self):
        self.assertEqual(leading(self.BASE, [(1, 2)] * 3), Change(NUMBER(1), NUMBER(2)))
        self.assertEqual(leading(self.BASE, [(0, 0), (1, 1), (2, 2)]), straight([[1, 2], [1, 2]], (0, 0)))

    def test_points_on_one_straight_line(self):
        for points in (
            [(0, 0), (1, 1), (2, 2)], [(0, 0), (0, 0), (1, 5)], [(1, 5), (0, 0), (1, 5)], [(0, 0), (1, 5), (1, 5)],
            [(3, 3)] * 3, [(1, 0), (1, 7), (1, Ratio(1, 2))], ((0, 4), (9, 4), (-1, 4)),
            [(0, Ratio(1, 3)), (1, Ratio(2, 3)), (2, 1)],
        ):
            self.refused_value(InvalidPoints, points, leading, points, self.BASE)
            self.refused_value(InvalidPoints, points, leading, points, "others")
            self.refused_value(InvalidPoints, points, leading, others=[(1, 1)] * 3, points=points)

    def test_wrong_values(self):
        wrongs = [[(0, 0), (1, 0), wrong] for wrong in not_points()] + [[wrong, (0, 0), (1, 0)] for wrong in not_points()]
        wrongs += [((0, 0), wrong, (5, 1)) for wrong in not_points()]
        wrongs += not_lists() + [[], [(0, 0)], [(0, 0), (1, 0)], [(0, 0), (1, 0), (0, 1), (1, 1)], [0, 1, 2]]
        for wrong in wrongs:
            with self.subTest(wrong):
                self.refused_value(InvalidPoints, wrong, leading, wrong, self.BASE)
                self.refused_value(InvalidPoints, wrong, leading, wrong, "others")
                self.refused_value(InvalidPoints, wrong, leading, self.BASE, wrong)
                self.refused_value(InvalidPoints, wrong, leading, others=wrong, points=tuple(self.BASE))
