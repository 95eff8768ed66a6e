"""What several tests share: wrong values, numbers drawn by a fixed rule, and a slow way to reckon."""

import unittest
from fractions import Fraction

from straightened.changes import Change
from straightened.errors import TooMany
from straightened.polys import Poly
from straightened.ratios import Ratio
from straightened.shears import shear
from straightened.straights import straight
from straightened.threads import changed_thread


class Thing:
    """A value of a kind that the package does not know."""


def strange():
    """Values of all kinds, none of which is a number, a point, a Poly, a Change .."""
    return [None, True, False, "", "x1", "12", b"1", {}, {0: 1}, {1, 2}, Thing(), Thing, len, object(), ((),), [[]]]


def not_numbers():
    return strange() + [[], (), [1], (1,), (1, 2), [Ratio(1)], Poly.number(1), Change.same(), Fraction(1, 2)]


def not_counts():
    """What is no COUNT: numbers too, as a Ratio is none, of whatever worth."""
    return not_numbers() + [-1, -18, Ratio(0), Ratio(2), Ratio(1, 2)]


def not_lists():
    """What is neither a list nor a tuple."""
    return [
        None, True, 0, 5, "", "12", b"12", {}, {0: 1}, {1, 2}, Thing(), list, Ratio(1), Poly.x(), Change.same(),
        range(2), iter([1]),
    ]


def not_lines():
    holding = [[1, wrong] for wrong in not_numbers()] + [[wrong, 1] for wrong in not_numbers()]
    return not_lists() + holding + [(0, True), (False,), [0] * 32, [1] * 32, tuple([0] * 32), [[1, 2]]]


def not_points():
    holding = [(1, wrong) for wrong in not_numbers()] + [(wrong, 1) for wrong in not_numbers()]
    return not_lists() + holding + [(), (1,), (1, 2, 3), [1, 2], [Ratio(1), Ratio(2)], (True, False), (0, True)]


def not_directions():
    unfit = [(0, 0), (0, 2), (0, -1), (2, 1), (-1, 0), (Ratio(1, 2), 1), (0, Ratio(1, 2)), (Ratio(0), Ratio(0))]
    return not_points() + unfit + [(0, True), (True, 0), (1, False), [1, 0], [0, 1], (1, 0, 0)]


def not_polys():
    return strange() + [0, 1, Ratio(1), [], [(1, 0, 1)], ((1, 0, 1),), [1, 2], Change.same(), "x"]


def not_changes():
    return strange() + [0, 1, Ratio(1), [], (Poly.x(), Poly.y()), [Poly.x(), Poly.y()], Poly.x(), (1, 2)]


def not_many():
    """What is no INTEGER from 1 to 18."""
    return not_counts() + [0, 19, 36, 10 ** 40]


def not_steps():
    found = [(wrong, 1, 2) for wrong in not_numbers() + [2, -1, 18, Ratio(0), Ratio(1), 10 ** 30 + 57]]
    found += [(0, wrong, 2) for wrong in not_numbers() + [0, Ratio(0)]]
    found += [(1, 1, wrong) for wrong in not_many()]
    found += [(), (0,), (0, 1), (0, 1, 2, 3), [0, 1, 2], "012", (True, 1, 1), (False, 1, 1), (0, True, 1), (0, 1, True)]
    return not_lists() + found


def flat_and_bent():
    """Changes that are not straight: some of a degree of at most 1, some of a greater one."""
    x, y, number = Poly.x(), Poly.y(), Poly.number
    return [
        Change(Poly(), Poly()), Change(number(1), number(2)), Change(x, x), Change(x, number(5)), Change(Poly(), y),
        Change(x + y, (x + y).scaled(2) + number(1)), Change(x + y * y, y), Change(x, x * y), Change(x * x, Poly()),
    ]


def not_shears():
    found = [(wrong, [0, 0, 1]) for wrong in not_directions()] + [((0, 1), wrong) for wrong in not_lines()]
    unfit = [[], [0, 0], [0, 0, 0], [1, 0, 1], [0, 1, 1], [0] * 19 + [1], [5, 0, 0], (0, Ratio(1, 2), 1)]
    found += [((1, 2), line) for line in unfit]
    found += [[(0, 1), [0, 0, 1]], ((0, 1),), ((0, 1), [0, 0, 1], 1), (0, 1, [0, 0, 1]), ((0, 1), [0, 0, True])]
    return not_lists() + found


def not_words():
    same, up, along = Change.same(), ((0, 1), [0, 0, 1]), ((1, 0), [0, 0, 1])
    found = [(wrong, [up]) for wrong in not_changes() + flat_and_bent()]
    found += [(same, wrong) for wrong in not_lists()] + [(same, [up, wrong]) for wrong in not_shears()]
    found += [(same, [wrong]) for wrong in not_shears()[::7]]
    found += [
        (same, [up, up]), (same, [((1, 2), [0, 0, 1]), ((Ratio(1), Ratio(2)), (0, 0, 0, 5))]),
        (same, [along, up, ((0, Ratio(1)), [0, 0, 2])]), (same, [up, along] * 12 + [up]),
        (same, [along, up, up, along]), [same, [up]], (same, []) + (1,), (same,), (), ([up], same), (same, up),
        (same, [same]), ((same, [up]), []), same, up, [up],
    ]
    return not_lists() + found


def not_half_steps():
    found = [(wrong, 1, 2) for wrong in strange() + [0, 1, "z", "X", "xy", "", ["x"], ("y",), Poly.x(), Ratio(1)]]
    found += [("x", wrong, 2) for wrong in not_numbers() + [0, Ratio(0)]]
    found += [("y", 1, wrong) for wrong in not_many()]
    return not_lists() + found + [(), ("x",), ("x", 1), ("x", 1, 2, 3), ["x", 1, 2], "x12", ("y", True, 1), ("y", 1, True)]


def not_threads():
    found = [(wrong, [0, 1]) for wrong in not_lines()] + [([0, 1], wrong) for wrong in not_lines()]
    found += [
        ([], []), ([0], [0]), ([1], [2, 0]), ((5,), ()), ([0] * 31, [3]), ([0] * 19 + [1], [0, 1]),
        ([0, 1], [0] * 19 + [1]), ([0, 1], [0] * 30 + [1]), [[0, 1], [1]], ([0, 1],), ([0, 1], [1], [2]), (),
        ([0, True], [1]), ([0, 1], [False]), ([0, 1], [0, 0, True]),
    ]
    return not_lists() + found


class Draw:
    """Numbers drawn by a fixed rule, the same ones in each run."""

    def __init__(self, seed):
        self.now = seed

    def below(self, limit):
        self.now = (self.now * 6364136223846793005 + 1442695040888963407) % 2 ** 64
        return (self.now >> 33) % limit

    def whole(self, size=5):
        return self.below(2 * size + 1) - size

    def ratio(self, size=5):
        return Ratio(self.whole(size), 1 + self.below(size))

    def number(self, size=5):
        """An INTEGER or a Ratio."""
        return self.whole(size) if self.below(2) else self.ratio(size)

    def but_nought(self, size=5):
        found = self.number(size)
        while fraction(found) == 0:
            found = self.number(size)
        return found

    def line(self, longest):
        """A list or a tuple, perhaps with noughts at its end."""
        found = [self.number() for _ in range(self.below(longest + 1))]
        return found if self.below(2) else tuple(found)

    def poly(self, most):
        """A Poly of a degree of at most this."""
        found = {}
        for _ in range(self.below(6)):
            i = self.below(most + 1)
            found[(i, self.below(most + 1 - i))] = self.but_nought()
        return Poly([(i, j, found[(i, j)]) for i, j in found])

    def point(self):
        return (self.number(), self.number())

    def change(self, most):
        return Change(self.poly(most), self.poly(most))

    def rows(self):
        """Rows of numbers whose determinant is not 0."""
        while True:
            found = [[self.number(), self.number()], [self.number(), self.number()]]
            (a, b), (c, d) = [[fraction(number) for number in row] for row in found]
            if a * d != b * c:
                return found

    def direction(self):
        return (0, 1) if self.below(4) == 0 else (1, self.number())

    def straight(self):
        return straight(self.rows(), self.point())

    def shear(self, most=4):
        """A shear, its line of a degree from 2 to this, a list or a tuple, perhaps with noughts at its end."""
        line = [0, 0] + [self.number(3) for _ in range(self.below(most - 1))] + [self.but_nought(3)]
        line = line + [0, Ratio(0)][:self.below(3)]
        return self.direction(), line if self.below(2) else tuple(line)

    def word(self, many, most=4):
        """A word with so many shears."""
        shears = []
        while len(shears) < many:
            item = self.shear(most)
            if not shears or pair(shears[-1][0]) != pair(item[0]):
                shears.append(item)
        return self.straight(), shears if self.below(2) else tuple(shears)

    def row(self, many, most=3):
        """A row of straight changes and shears, few of whose directions are unlike, so that some of them meet."""
        found = []
        for _ in range(many):
            if self.below(3) == 0:
                found.append(straight([[self.but_nought(2), 0], [0, self.but_nought(2)]], self.point()))
            else:
                found.append(((0, 1) if self.below(2) else (1, 0), self.shear(most)[1]))
        return found

    def thread(self, most):
        """A thread of lines of a degree of at most this."""
        while True:
            found = self.line(most + 1), self.line(most + 1)
            if max(len(fractions(found[0])), len(fractions(found[1]))) > 1:
                return found


def drawn_steps(seed, many, most=3):
    draw = Draw(seed)
    return [(draw.below(2), draw.but_nought(), 1 + draw.below(most)) for _ in range(many)]


def undoable(seed, many):
    """Changes that can be undone: a straight one, led on by shears along unlike directions."""
    draw = Draw(seed)
    found = []
    for _ in range(many):
        change = straight(draw.rows(), draw.point())
        while change.degree <= 6:
            longest = min(3, 18 // change.degree)
            line = [0, 0] + [draw.but_nought(3) for _ in range(longest - 1)]
            change = shear(draw.direction(), line).behind(change)
        found.append(change)
    return found


def fraction(number):
    """The number in Python's own kind of fractions."""
    return Fraction(number.top, number.bottom) if isinstance(number, Ratio) else Fraction(number)


def fractions(line):
    """The line in Python's own fractions, without noughts at its end."""
    found = [fraction(number) for number in line]
    while found and found[-1] == 0:
        found.pop()
    return found


def amounts(poly):
    """The Poly's amounts by both powers, in Python's own fractions."""
    return {(i, j): fraction(amount) for i, j, amount in poly.entries()}


def pair(value):
    """A point or a direction in Python's own fractions."""
    return fraction(value[0]), fraction(value[1])


def slow_line_worth(line, number):
    return sum([fraction(one) * number ** power for power, one in enumerate(line)], Fraction(0))


def slow_change_at(change, point):
    """Where the change leads a point of Python's own fractions."""
    return tuple([slow_worth(amounts(half), point[0], point[1]) for half in (change.first, change.second)])


def slow_row_at(items, point):
    """Where a row of changes and shears leads a point: what stands last is done first."""
    point = pair(point)
    for item in list(items)[::-1]:
        if isinstance(item, Change):
            point = slow_change_at(item, point)
        else:
            (ahead, behind), line = pair(item[0]), item[1]
            length = slow_line_worth(line, point[1] - behind * point[0] if ahead else point[0])
            point = (point[0] + length * ahead, point[1] + length * behind)
    return point


def items_of(word):
    """The word as a row."""
    return [word[0]] + list(word[1])


def slow_word_at(word, point):
    return slow_row_at(items_of(word), point)


def without_noughts(table):
    return {key: table[key] for key in table if table[key] != 0}


def slow_sum(one, two, factor=1):
    """Of two tables of amounts: the one, and factor times the other one."""
    found = dict(one)
    for key in two:
        found[key] = found.get(key, 0) + factor * two[key]
    return without_noughts(found)


def slow_product(one, two):
    found = {}
    for i, j in one:
        for k, m in two:
            found[(i + k, j + m)] = found.get((i + k, j + m), 0) + one[(i, j)] * two[(k, m)]
    return without_noughts(found)


def slow_power(one, many):
    found = {(0, 0): Fraction(1)}
    for _ in range(many):
        found = slow_product(found, one)
    return found


def slow_put(table, first, second):
    found = {}
    for i, j in table:
        part = slow_product(slow_power(first, i), slow_power(second, j))
        found = slow_sum(found, part, table[(i, j)])
    return found


def slow_worth(table, x, y):
    return sum([table[(i, j)] * x ** i * y ** j for i, j in table], Fraction(0))


def slow_line_sum(one, two, factor=1):
    """Of two lines of Python's own fractions: the one, and factor times the other one."""
    longest = max(len(one), len(two))
    ahead, behind = [line + [Fraction(0)] * (longest - len(line)) for line in (one, two)]
    return fractions([number + factor * other for number, other in zip(ahead, behind)])


def slow_line_product(one, two):
    found = [Fraction(0)] * (len(one) + len(two))
    for power, number in enumerate(one):
        for more, other in enumerate(two):
            found[power + more] += number * other
    return fractions(found)


def slow_line_put(line, other):
    """The line with the other one for t, in Python's own fractions, of whatever degree."""
    found = []
    for number in fractions(line)[::-1]:
        found = slow_line_sum(slow_line_product(found, fractions(other)), [number])
    return found


def slow_along(poly, thread):
    """The Poly along both lines, in Python's own fractions, of whatever degree."""
    table, (first, second) = amounts(poly), [fractions(line) for line in thread]
    found = []
    for i in range(18, -1, -1):
        inner = []
        for j in range(18 - i, -1, -1):
            inner = slow_line_sum(slow_line_product(inner, second), [table.get((i, j), Fraction(0))])
        found = slow_line_sum(slow_line_product(found, first), inner)
    return found


def slow_determinant(rows, plus, times, none, one):
    """The determinant by the first row's entries, each times what is left without its row and column."""
    if not rows:
        return one
    found = none
    for at, entry in enumerate(rows[0]):
        if entry != none:
            left = slow_determinant([row[:at] + row[at + 1:] for row in rows[1:]], plus, times, none, one)
            found = plus(found, times(entry, left), -1 if at % 2 else 1)
    return found


def slow_degree(line):
    return len(fractions(line)) - 1


STRAIGHT_THREADS = [
    ([0, 1], []), ([7], [0, 3]), ([5, Ratio(1, 2)], (0, 0)), ([], [1, -1]), ((0, 4, 0), [3, 0, 0]), ([1, 2], [3, -4]),
]
CROSSED_THREADS = [
    ([0, 0, 1], [0, 0, 0, 1]), ([0, 0, 1], [5]), ([], [0, 0, 0, 1]), ([-1, 0, 1], [0, -1, 0, 1]), ([0, 0, 1], [0, 0, 2]),
    ([0, 0, 1], [0, 0, 0, 0, 1]), ([1, 2, 2], [0, 0, 3, 6, 3]), ([0, -3, 0, 1], [0, 0, 1]),
]


def bent_threads(seed, many, threads, limit=18):
    """Tuples of a thread to which a drawn change that can be undone leads one of these threads, and of this change."""
    draw, found = Draw(seed), []
    for change in undoable(seed + 1, many):
        thread = threads[draw.below(len(threads))]
        if change.degree * max(slow_degree(thread[0]), slow_degree(thread[1])) <= limit:
            found.append((changed_thread(change, thread), change))
    return found


def longest_digits(value):
    """The most digits above or below a stroke of a number anywhere in the value."""
    if isinstance(value, Ratio):
        return max(len(str(abs(value.top))), len(str(value.bottom)))
    if isinstance(value, Poly):
        return longest_digits([entry[2] for entry in value.entries()])
    if isinstance(value, Change):
        return max(longest_digits(value.first), longest_digits(value.second))
    return max([longest_digits(part) for part in value if not isinstance(part, (int, str))] or [0])


class Case(unittest.TestCase):
    """Asks for errors with their attributes, and that nothing passed is changed."""

    def refused(self, error, attributes, function, /, *values, **named):
        """The call raises just this error, its attributes are these, and what was passed stays as it was."""
        kept = repr((values, named))
        with self.assertRaises(error) as caught:
            function(*values, **named)
        self.assertIs(caught.exception.__class__, error)
        self.assertEqual(sorted(vars(caught.exception)), sorted(attributes))
        for name in attributes:
            self.assert_alike(getattr(caught.exception, name), attributes[name])
        self.assertEqual(repr((values, named)), kept)

    def refused_value(self, error, value, function, /, *values, **named):
        self.refused(error, {"value": value}, function, *values, **named)

    def refused_degree(self, limit, function, /, *values, **named):
        self.refused(TooMany, {"what": "degree", "limit": limit}, function, *values, **named)

    def assert_alike(self, one, two):
        """Of the same kind, and the same or equal."""
        self.assertIs(one.__class__, two.__class__)
        self.assertTrue(one is two or one == two, (one, two))

    def assert_bool(self, found, wanted):
        self.assertIs(found, wanted)

    def assert_ratio(self, found, wanted):
        """A Ratio of this worth, a number of the package or of Python."""
        self.assertIs(found.__class__, Ratio)
        self.assertEqual(fraction(found), fraction(wanted))

    def assert_integer(self, found, wanted):
        self.assertIs(found.__class__, int)
        self.assertEqual(found, wanted)

    def assert_line(self, found, wanted):
        """A list of Ratios of these worths, without a nought at its end."""
        self.assertIs(found.__class__, list)
        for number in found:
            self.assertIs(number.__class__, Ratio)
        self.assertEqual([fraction(number) for number in found], fractions(wanted))

    def assert_poly(self, found, wanted):
        """A Poly with this table of amounts, in Python's own fractions or in numbers of the package."""
        self.assertIs(found.__class__, Poly)
        self.assertEqual(amounts(found), {powers: fraction(wanted[powers]) for powers in wanted})

    def assert_pair(self, found, wanted):
        """A tuple of two Ratios of these worths."""
        self.assertIs(found.__class__, tuple)
        self.assertEqual(len(found), 2)
        for number, other in zip(found, wanted):
            self.assert_ratio(number, other)

    def assert_shear(self, found, direction, line):
        """A told shear with this direction and this line."""
        self.assertIs(found.__class__, tuple)
        self.assertEqual(len(found), 2)
        self.assert_pair(found[0], direction)
        self.assert_line(found[1], line)

    def assert_word(self, found, wanted):
        """A told word that says the same as the other one, by whatever numbers that is written."""
        self.assertIs(found.__class__, tuple)
        self.assertEqual(len(found), 2)
        self.assertIs(found[0].__class__, Change)
        self.assertIs(found[1].__class__, list)
        self.assertEqual(found[0], wanted[0])
        self.assertEqual(len(found[1]), len(wanted[1]))
        for item, (direction, line) in zip(found[1], wanted[1]):
            self.assert_shear(item, direction, line)

    def assert_thread(self, found, wanted):
        """A tuple of two told lines of these numbers."""
        self.assertIs(found.__class__, tuple)
        self.assertEqual(len(found), 2)
        self.assert_line(found[0], wanted[0])
        self.assert_line(found[1], wanted[1])

    def refused_shears(self, function, /, *values, **named):
        self.refused(TooMany, {"what": "shears", "limit": 24}, function, *values, **named)
