"""straightened.shears: points 25, 26 and 27, and what is a direction and a shear of point 6."""

from straightened.changes import Change, jacobian
from straightened.errors import InvalidChange, InvalidDirection, InvalidLine, InvalidPoint, NotStraight
from straightened.lines import minus, plus, put_in, scaled, worth
from straightened.polys import Poly
from straightened.ratios import Ratio
from straightened.shears import direction_of, is_direction, is_shear, keeps, led_direction, level, shear
from straightened.straights import determinant, is_straight, leading, straight, undone_straight
from tests.helpers import Case, Draw, fraction, fractions, not_changes, not_directions, not_lines, not_lists, not_points

X, Y = Poly.x(), Poly.y()
NUMBER = Poly.number
LARGE = 10 ** 32 + 9
DIRECTIONS = [(0, 1), (1, 0), (1, 1), (1, -3), (1, Ratio(2, 3)), (Ratio(1), LARGE), (Ratio(0), Ratio(1)), (0, Ratio(1))]
BENT = [
    Change(X, X), Change(NUMBER(1), Y), Change(Poly(), Poly()), Change(X + Y * Y, Y), Change(X, Poly([(18, 0, 1)])),
]


def drawn_straights(seed, many):
    draw = Draw(seed)
    return [straight(draw.rows(), draw.point()) for _ in range(many)]


def drawn_directions(seed, many):
    draw = Draw(seed)
    return DIRECTIONS + [draw.direction() for _ in range(many)]


def told(direction):
    return tuple([fraction(number) for number in direction])


def degree(line):
    return len(fractions(line)) - 1


class DirectionsTest(Case):
    def test_is_direction(self):
        for value in drawn_directions(91, 20):
            self.assert_bool(is_direction(value), True)
            self.assert_bool(is_direction(value=value), True)
        for wrong in not_directions():
            with self.subTest(wrong):
                self.assert_bool(is_direction(wrong), False)

    def test_direction_of(self):
        draw = Draw(92)
        for point, wanted in (
            ((0, 5), (0, 1)), ((0, Ratio(-1, 3)), (0, 1)), ((2, 3), (1, Ratio(3, 2))), ((-4, 0), (1, 0)),
            ((Ratio(1, 2), Ratio(1, 3)), (1, Ratio(2, 3))), ((LARGE, 1), (1, Ratio(1, LARGE))),
        ):
            self.assert_pair(direction_of(point), wanted)
            self.assert_pair(direction_of(point=point), wanted)
        for direction in drawn_directions(93, 30):
            number = draw.but_nought()
            point = (Ratio(1) * direction[0] * number, Ratio(1) * direction[1] * number)
            self.assert_pair(direction_of(point), direction)

    def test_of_no_point_and_of_the_one_that_has_none(self):
        for wrong in not_points() + [(0, 0), (Ratio(0), 0), (0, Ratio(0))]:
            with self.subTest(wrong):
                self.refused_value(InvalidPoint, wrong, direction_of, wrong)
                self.refused_value(InvalidPoint, wrong, direction_of, point=wrong)

    def test_levels(self):
        self.assertEqual(level((0, 1)), X)
        self.assertEqual(level((1, 0)), Y)
        self.assertEqual(level(direction=(Ratio(1), Ratio(-2, 3))), Y + X.scaled(Ratio(2, 3)))
        directions = drawn_directions(94, 15)
        for one in directions:
            for two in directions:
                here = level(one).worth(two[0], two[1])
                self.assertEqual(fraction(here) == 0, told(one) == told(two))

    def test_wrong_directions(self):
        for wrong in not_directions():
            with self.subTest(wrong):
                self.refused_value(InvalidDirection, wrong, level, wrong)
                self.refused_value(InvalidDirection, wrong, level, direction=wrong)


class LedDirectionsTest(Case):
    def test_where_the_change_leads_points_of_the_direction(self):
        for change in drawn_straights(95, 15):
            for direction in drawn_directions(96, 10):
                start, end = change.at((0, 0)), change.at(direction)
                wanted = direction_of((end[0] - start[0], end[1] - start[1]))
                self.assert_pair(led_direction(change, direction), wanted)

    def test_unlike_ones_to_unlike_ones_and_back(self):
        directions = drawn_directions(97, 8)
        for change in drawn_straights(98, 8):
            for one in directions:
                self.assert_pair(led_direction(undone_straight(change), led_direction(change, one)), one)
                for two in directions:
                    alike = led_direction(change, one) == led_direction(change, two)
                    self.assertEqual(alike, told(one) == told(two))

    def test_keeps(self):
        for change in drawn_straights(99, 15) + [Change.same(), Change(X.scaled(2), Y.scaled(3)), Change(X, X + Y)]:
            for direction in drawn_directions(100, 10):
                wanted = told(led_direction(change, direction)) == told(direction)
                self.assert_bool(keeps(change, direction), wanted)
        self.assert_bool(keeps(Change(X.scaled(2), Y.scaled(3)), (0, 1)), True)
        self.assert_bool(keeps(Change(X.scaled(2), Y.scaled(3)), (1, 0)), True)
        self.assert_bool(keeps(direction=(1, 1), change=Change(X.scaled(2), Y.scaled(3))), False)
        self.assert_bool(keeps(Change(Y, X), (1, 1)), True)
        self.assert_bool(keeps(Change(Y, X), (0, 1)), False)
        self.assert_bool(keeps(Change(X + NUMBER(3), Y), (1, 7)), True)

    def test_examples(self):
        turn = straight([[0, 1], [-1, 0]], (2, 0))
        self.assert_pair(led_direction(turn, (1, 0)), (0, 1))
        self.assert_pair(led_direction(direction=(0, 1), change=turn), (1, 0))

    def test_wrong_values(self):
        for function in (led_direction, keeps):
            for wrong in not_changes():
                with self.subTest(wrong):
                    self.refused_value(InvalidChange, wrong, function, wrong, (1, 2))
                    self.refused_value(InvalidChange, wrong, function, wrong, "direction")
                    self.refused_value(InvalidChange, wrong, function, direction=(2, 1), change=wrong)
            for wrong in not_directions():
                with self.subTest(wrong):
                    self.refused_value(InvalidDirection, wrong, function, Change.same(), wrong)
                    self.refused_value(InvalidDirection, wrong, function, BENT[0], wrong)
                    self.refused_value(InvalidDirection, wrong, function, direction=wrong, change=BENT[3])
            for change in BENT:
                self.refused(NotStraight, {}, function, change, (1, 2))
                self.refused(NotStraight, {}, function, direction=(0, 1), change=change)


class IsShearTest(Case):
    def test_lines_of_degree_two_to_eighteen_from_the_square_on(self):
        for line in (
            [0, 0, 5], (0, 0, Ratio(1, 2)), [0, 0, 0, 1], [0] * 18 + [1], [0, Ratio(0), 1, 0, 0], [0, 0, 1] + [0] * 28,
            [0] * 18 + [1] + [0] * 12, [0, 0] + [1] * 17,
        ):
            for direction in DIRECTIONS:
                self.assert_bool(is_shear((direction, line)), True)
                self.assert_bool(is_shear(value=(direction, line)), True)

    def test_other_lines(self):
        for line in (
            [], (), [0, 0], [0, 0, 0], [1], [0, 1], [1, 0, 1], [0, 1, 1], [0, Ratio(1, 2), 5], [0] * 19 + [1],
            [0] * 30 + [1], [0, 0, 1] + [0] * 29,
        ):
            self.assert_bool(is_shear(((0, 1), line)), False)

    def test_all_else(self):
        shear_line = [0, 0, 1]
        wrongs = [(wrong, shear_line) for wrong in not_directions()] + [((0, 1), wrong) for wrong in not_lines()]
        wrongs += not_lists() + [(), ((0, 1),), ((0, 1), shear_line, 1), [(0, 1), shear_line], [0, 0, 1], (0, 1)]
        for wrong in wrongs:
            with self.subTest(wrong):
                self.assert_bool(is_shear(wrong), False)


class ShearTest(Case):
    def lines(self, seed, many):
        draw = Draw(seed)
        return [[], [0, 0], (3,), [0, 1], [2, -1], [0, 0, 1]] + [draw.line(5) for _ in range(many)]

    def test_it_leads_points_along_the_direction_by_the_line_of_their_level(self):
        draw = Draw(101)
        for direction in drawn_directions(102, 10):
            for line in self.lines(103, 10):
                found = shear(direction, line)
                self.assertIs(found.__class__, Change)
                point = draw.point()
                way = worth(line, level(direction).worth(*point))
                wanted = (way * direction[0] + point[0], way * direction[1] + point[1])
                self.assert_pair(found.at(point), wanted)
                self.assertEqual(level(direction).worth(*found.at(point)), level(direction).worth(*point))

    def test_degree_and_jacobian(self):
        for direction in drawn_directions(104, 6):
            for line in self.lines(105, 10):
                found = shear(direction, line)
                self.assertEqual(jacobian(found), NUMBER(1))
                self.assert_integer(found.degree, max(degree(line), 1))
                if degree(line) <= 1:
                    self.assert_bool(is_straight(found), True)
                    self.assert_ratio(determinant(found), 1)

    def test_two_along_one_direction(self):
        for direction in drawn_directions(106, 4):
            for one in self.lines(107, 3):
                self.assertEqual(shear(direction, one).behind(shear(direction, scaled(one, -1))), Change.same())
                for two in self.lines(108, 3):
                    if degree(one) * degree(two) <= 18:
                        both = shear(direction, one).behind(shear(direction, two))
                        self.assertEqual(both, shear(direction, plus(one, two)))

    def test_along_unlike_directions_degrees_are_multiplied(self):
        for one, two in (((0, 1), (1, 0)), ((1, 2), (1, 3)), ((1, Ratio(1, 2)), (0, 1))):
            for first, second in (([0, 0, 1], [1, 2, 3]), ([0, 0, 0, 5], [0, 1, 2]), ([0, 0, 0, 1], [0] * 6 + [1])):
                both = shear(one, first).behind(shear(two, second))
                self.assert_integer(both.degree, degree(first) * degree(second))

    def test_examples(self):
        self.assertEqual(shear((1, 0), [0, 0, 1]), Change(X + Y * Y, Y))
        self.assertEqual(shear((0, 1), [0, 0, 1]), Change(X, Y + X * X))
        self.assertEqual(shear(line=(5, 2), direction=(0, 1)), Change(X, Y + X.scaled(2) + NUMBER(5)))
        self.assertEqual(shear((1, 2), [1]), Change(X + NUMBER(1), Y + NUMBER(2)))
        for nought in ([], (), [0], [0] * 31):
            self.assertEqual(shear((1, 2), nought), Change.same())

    def test_degree_eighteen_and_nineteen(self):
        for direction in ((0, 1), (1, 0), (1, -2)):
            self.assert_integer(shear(direction, [0] * 18 + [1]).degree, 18)
            self.assert_integer(shear(direction, [0] * 18 + [1] + [0] * 12).degree, 18)
            for most in (19, 20, 30):
                self.refused_degree(18, shear, direction, [0] * most + [1])
                self.refused_degree(18, shear, line=tuple([1] * most + [1]), direction=direction)

    def test_wrong_values(self):
        for wrong in not_directions():
            with self.subTest(wrong):
                self.refused_value(InvalidDirection, wrong, shear, wrong, [0, 0, 1])
                self.refused_value(InvalidDirection, wrong, shear, wrong, "line")
                self.refused_value(InvalidDirection, wrong, shear, line=[1] * 31, direction=wrong)
        for wrong in not_lines():
            with self.subTest(wrong):
                self.refused_value(InvalidLine, wrong, shear, (0, 1), wrong)
                self.refused_value(InvalidLine, wrong, shear, line=wrong, direction=(1, 2))

    def test_what_is_passed_stays(self):
        line = [0, 0, 1, 0]
        shear((1, 2), line), is_shear(((1, 2), line))
        self.assertEqual(repr(line), "[0, 0, 1, 0]")

    def test_points_of_one_level_are_moved_alike(self):
        found = shear((1, 2), [1, 1, 3])
        one, two = found.at((0, 5)), found.at((3, 11))
        self.assertEqual((one[0] - 0, one[1] - 5), (two[0] - 3, two[1] - 11))


class MovedShearTest(Case):
    """Point 27: a shear led by a straight change is the shear that the point tells."""

    def test_led_by_straight_changes(self):
        for change in drawn_straights(111, 8):
            for direction in drawn_directions(112, 3):
                for line in ([0, 0, 1], [1, 2, 0, -1], [0, Ratio(1, 2), 3]):
                    self.check_moved(change, direction, line)

    def check_moved(self, change, direction, line):
        back = undone_straight(change)
        moved = change.behind(shear(direction, line)).behind(back)
        end = led_direction(change, direction)
        start, tip = change.at((0, 0)), change.at(direction)
        way = (tip[0] - start[0], tip[1] - start[1])
        stretch = way[1] if end[0] == Ratio(0) else way[0]
        self.assertEqual(way, (end[0] * stretch, end[1] * stretch))
        # The level of the direction at the point from which (x, y) comes.
        before = level(direction).put(back.first, back.second)
        alone = before.amount(0, 0)
        half = level(end)
        first = half.amount(0, 1) if end[0] == Ratio(1) else half.amount(1, 0)
        slope = (before.amount(0, 1) if end[0] == Ratio(1) else before.amount(1, 0)).over(first)
        self.assertEqual(before, half.scaled(slope) + NUMBER(alone))
        self.assertEqual(moved, shear(end, scaled(put_in(line, [alone, slope]), stretch)))
