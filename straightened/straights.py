"""Straight changes, and those of degree at most 1 by three points."""

from straightened.changes import Change, check_change, is_point, told_point
from straightened.errors import InvalidPoints, InvalidRows, NotStraight
from straightened.polys import Poly
from straightened.ratios import as_ratio, is_number


def is_straight(change):
    """Whether the change has a degree of at most 1, and a determinant that is not 0."""
    check_change(change)
    return change.degree <= 1 and cross(linear_rows(change)).sign != 0


def determinant(change):
    """The determinant of a change of degree at most 1."""
    check_change(change)
    if change.degree > 1:
        raise NotStraight()
    return cross(linear_rows(change))


def check_straight(change):
    """Refuse what is no Change with InvalidChange, and a Change that is not straight."""
    if not is_straight(change):
        raise NotStraight()


def straight(rows, point):
    """The change with these numbers at x and y, and the point's where no letter stands."""
    if not are_rows(rows):
        raise InvalidRows(rows)
    alone = told_point(point)
    return Change(linear_poly(rows[0], alone[0]), linear_poly(rows[1], alone[1]))


def undone_straight(change):
    """The change that undoes the straight one."""
    check_straight(change)
    (a, b), (c, d) = linear_rows(change)
    e, f = change.first.amount(0, 0), change.second.amount(0, 0)
    whole = determinant(change)
    rows = [[d.over(whole), -b.over(whole)], [-c.over(whole), a.over(whole)]]
    return straight(rows, ((b * f - d * e).over(whole), (c * e - a * f).over(whole)))


def leading(points, others):
    """The change of degree at most 1 that leads the three points to the others."""
    if not are_three_points(points):
        raise InvalidPoints(points)
    (a, b), (c, d) = sides(points)
    whole = cross(sides(points))
    if whole.sign == 0:
        raise InvalidPoints(points)
    if not are_three_points(others):
        raise InvalidPoints(others)
    (e, f), (g, h) = sides(others)
    rows = [
        [(e * d - g * b).over(whole), (g * a - e * c).over(whole)],
        [(f * d - h * b).over(whole), (h * a - f * c).over(whole)],
    ]
    turned = straight(rows, (0, 0)).at(points[0])
    start = told_point(others[0])
    return straight(rows, (start[0] - turned[0], start[1] - turned[1]))


def is_pair(value):
    """Whether any value is a list of two NUMBERS."""
    if not isinstance(value, (list, tuple)) or len(value) != 2:
        return False
    return is_number(value[0]) and is_number(value[1])


def are_rows(value):
    """Whether any value is a list of two lists of two NUMBERS each."""
    return isinstance(value, (list, tuple)) and len(value) == 2 and is_pair(value[0]) and is_pair(value[1])


def are_three_points(value):
    """Whether any value is a list of three points, on one straight line or not."""
    if not isinstance(value, (list, tuple)) or len(value) != 3:
        return False
    return all([is_point(point) for point in value])


def linear_rows(change):
    """The numbers at x and at y in both halves."""
    halves = (change.first, change.second)
    return [[half.amount(1, 0), half.amount(0, 1)] for half in halves]


def linear_poly(row, alone):
    """The Poly with the row's numbers at x and y, and one without a letter."""
    return Poly.x().scaled(row[0]) + Poly.y().scaled(row[1]) + Poly.number(alone)


def cross(rows):
    """The determinant of two rows of two Ratios each."""
    return rows[0][0] * rows[1][1] - rows[0][1] * rows[1][0]


def sides(points):
    """What leads from the first point to the second one, and to the third one."""
    start = told_point(points[0])
    return [[as_ratio(x) - start[0], as_ratio(y) - start[1]] for x, y in points[1:]]
