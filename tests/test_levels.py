"""straightened.levels: points 86, 87 and 88."""

from fractions import Fraction

from straightened.changes import Change
from straightened.equations import equation, trace
from straightened.errors import InvalidNumber, InvalidPoly, InvalidThread, NotHalf, TooMany
from straightened.halves import is_half
from straightened.levels import is_leading, is_level_thread, leading_change, level_thread
from straightened.lines import put_in
from straightened.polys import Poly
from straightened.ratios import Ratio
from straightened.shears import shear
from straightened.stops import can_be_undone
from straightened.straights import straight
from straightened.threads import changed_thread, is_straightened, is_thread, thread_at
from straightened.undoing import undone
from straightened.walked import walked
from straightened.words import word_change
from tests.helpers import (
    Case, CROSSED_THREADS, Draw, STRAIGHT_THREADS, amounts, bent_threads, fraction, fractions, longest_digits, not_changes,
    not_numbers, not_polys, not_threads, pair, slow_along, slow_degree, slow_worth, undoable,
)

X, Y = Poly.x(), Poly.y()
NUMBER = Poly.number
WIDE = [0] * 18 + [1]
NOT_HALVES = [
    Poly(), NUMBER(3), X * X, X + X * X * Y, X * Y, X * X + Y * Y * Y, (Y + X * X) * (Y + X * X), Poly([(9, 9, 1)]),
]


def greater_degree(thread):
    return max(slow_degree(thread[0]), slow_degree(thread[1]))


def halves(seed, many):
    found = [X, Y, X + Y, Y.scaled(5) - NUMBER(2), X.scaled(Ratio(-1, 3)) + NUMBER(1), Y + X * X, X + Poly([(0, 18, 2)])]
    for change in undoable(seed, many):
        found += [change.first, change.second]
    return found


class LevelTest(Case):
    def check(self, poly, number):
        found = level_thread(poly, number)
        self.assert_thread(found, found)
        self.assert_bool(is_thread(found), True)
        self.assert_bool(is_straightened(found), True)
        for time in range(3):
            x, y = pair(thread_at(found, time))
            self.assertEqual(slow_worth(amounts(poly), x, y), fraction(number))
        if longest_digits(found) < 20:
            self.assertEqual(slow_along(poly, found), fractions([number]))
        self.assert_bool(is_level_thread(poly, number, found), True)
        self.assert_bool(is_level_thread(value=found, number=number, poly=poly), True)
        self.assert_bool(is_level_thread(poly, number + 1, found), False)
        self.assert_bool(is_level_thread(poly + NUMBER(1), number + 1, found), True)
        self.assertEqual(level_thread(number=number, poly=poly), found)
        return found

    def test_of_drawn_halves(self):
        draw, told = Draw(1701), 0
        for poly in halves(1702, 12):
            number = draw.number()
            found = self.check(poly, number)
            self.assertEqual(walked(found), 1)
            if greater_degree(found) <= 4:
                told += 1
                moved = poly - NUMBER(number)
                self.assertEqual(equation(found), moved.scaled(Ratio(1).over(moved.entries()[-1][2])))
        self.assertGreater(told, 5)

    def test_of_degree_eighteen(self):
        wide = shear((0, 1), [0, 0, 1, 2]).behind(shear((1, 0), [0] * 6 + [2]))
        turn = straight([[1, 2], [3, -4]], (5, 6))
        for change in (wide, turn.behind(wide), wide.behind(turn), shear((1, 3), WIDE), shear((0, 1), list(range(19)))):
            for poly in (change.first, change.second):
                found = self.check(poly, Ratio(2, 3))
                self.assertLessEqual(greater_degree(found), 18)

    def test_numbers(self):
        for number in (0, 3, -1, Ratio(0), Ratio(5, 7)):
            self.check(Y - X * X, number)
            self.assert_thread(level_thread(X, number), ([number], [0, 1]))
        self.assert_bool(is_level_thread(X * X - Y, 3, ([0, 1], [-3, 0, 1])), True)
        self.assert_bool(is_level_thread(X * X - Y, Ratio(3), ((5, -1, 0), (22, -10, 1))), True)
        self.assert_bool(is_level_thread(X * X - Y, 4, ([0, 1], [-3, 0, 1])), False)
        self.assert_bool(is_level_thread(Poly(), 0, ([0, 1], [])), True)
        self.assert_bool(is_level_thread(Poly(), 1, ([0, 1], [])), False)
        self.assert_bool(is_level_thread(NUMBER(1), Ratio(1), ([0, 1], [])), True)

    def test_threads_that_are_not_straightened(self):
        for thread in CROSSED_THREADS:
            found = trace(thread)
            self.assertEqual(slow_along(found, thread), [])
            self.assert_bool(is_level_thread(found, 0, thread), False)
        self.assert_bool(is_level_thread(X * X - Y, 0, ([0, 0, 1], [0, 0, 0, 0, 1])), False)
        self.assert_bool(is_level_thread(X * X - Y, 0, ([0, 1], [0, 0, 1])), True)

    def test_whatever_poly(self):
        """Also of one that is no half, and whatever degree comes along the thread."""
        draw = Draw(1703)
        self.assert_bool(is_level_thread(X * Y, 0, ([0, 1], [])), True)
        self.assert_bool(is_level_thread(X * Y + NUMBER(2), 2, ([], [3, 1])), True)
        self.assert_bool(is_level_thread(Poly([(9, 9, 1)]), 0, ([], WIDE)), False)
        self.assert_bool(is_level_thread(Poly([(9, 9, 1)]), 0, ([], [1, 1])), True)
        thread = changed_thread(shear((0, 1), list(range(19))), ([0, 1], []))
        self.assert_bool(is_level_thread(Y - shear((0, 1), list(range(19))).second + Y, 0, thread), True)
        self.assert_bool(is_level_thread(Poly([(0, 18, 1)]), 1, thread), False)
        for thread, change in bent_threads(1704, 12, STRAIGHT_THREADS):
            poly = draw.poly(2)
            if 2 * change.degree <= 18:
                self.assert_bool(is_level_thread(poly, 5, thread), slow_along(poly, thread) == [Fraction(5)])

    def test_no_halves(self):
        for poly in NOT_HALVES:
            with self.subTest(poly):
                self.assert_bool(is_half(poly), False)
                self.refused(NotHalf, {}, level_thread, poly, 1)
                self.refused(NotHalf, {}, level_thread, number=Ratio(1, 2), poly=poly)

    def test_wrong_values(self):
        for wrong in not_polys():
            with self.subTest(wrong):
                self.refused_value(InvalidPoly, wrong, level_thread, wrong, 1)
                self.refused_value(InvalidPoly, wrong, level_thread, number=None, poly=wrong)
                self.refused_value(InvalidPoly, wrong, is_level_thread, wrong, 1, ([0, 1], []))
                self.refused_value(InvalidPoly, wrong, is_level_thread, value=None, number=None, poly=wrong)
        for wrong in not_numbers():
            with self.subTest(wrong):
                self.refused_value(InvalidNumber, wrong, level_thread, X, wrong)
                self.refused_value(InvalidNumber, wrong, level_thread, number=wrong, poly=X * Y)
                self.refused_value(InvalidNumber, wrong, is_level_thread, X, wrong, ([0, 1], []))
                self.refused_value(InvalidNumber, wrong, is_level_thread, value=None, number=wrong, poly=X)
        for wrong in not_threads():
            with self.subTest(wrong):
                self.assert_bool(is_level_thread(X, 0, wrong), False)
                self.assert_bool(is_level_thread(value=wrong, number=0, poly=Poly()), False)


class LeadingTest(Case):
    def check(self, thread, other):
        found = leading_change(thread, other)
        self.assertIs(found.__class__, Change)
        self.assert_bool(can_be_undone(found), True)
        self.assertEqual(slow_along(found.first, thread), fractions(other[0]))
        self.assertEqual(slow_along(found.second, thread), fractions(other[1]))
        self.assert_bool(is_leading(thread, other, found), True)
        self.assert_bool(is_leading(value=found, other=other, thread=thread), True)
        self.assert_bool(is_leading(other, thread, undone(found)), True)
        self.assertEqual(leading_change(other=other, thread=thread), found)
        return found

    def test_of_drawn_threads(self):
        draw = Draw(1711)
        threads = [thread for thread in [draw.thread(3) for _ in range(200)] if is_straightened(thread)]
        self.assertGreater(len(threads), 30)
        for at in range(len(threads) - 1):
            self.check(threads[at], threads[at + 1])

    def test_of_bent_threads(self):
        for thread, _ in bent_threads(1712, 15, STRAIGHT_THREADS):
            for other in STRAIGHT_THREADS:
                self.assertLessEqual(self.check(thread, other).degree, greater_degree(thread))
                self.check(other, thread)

    def test_up_to_eighteen(self):
        lines = {many: [0] * many + [1] for many in (1, 2, 3, 6, 9, 18)}
        for one, two in ((18, 1), (1, 18), (9, 2), (2, 9), (6, 3), (3, 6), (3, 3)):
            self.check((lines[one], [0, 1]), ([5, 2], lines[two]))
            self.check(([1, 1], lines[one]), ([5, 2], lines[two]))

    def test_above_eighteen(self):
        """TooMany may be raised there, and nothing else may go wrong."""
        lines = {many: [1] * many + [1] for many in (1, 4, 5, 10, 18)}
        for one, two in ((4, 5), (5, 4), (10, 10), (18, 18), (18, 4)):
            thread, other = (lines[one], [0, 1]), ([5, 2], lines[two])
            try:
                found = leading_change(thread, other)
            except TooMany as error:
                self.assertEqual((error.what, error.limit), ("degree", 18))
            else:
                self.assert_bool(is_leading(thread, other, found), True)

    def test_there_is_none(self):
        for thread in CROSSED_THREADS + [(WIDE, WIDE), (WIDE, [0] * 17 + [1]), ([4], WIDE)]:
            for other in STRAIGHT_THREADS + CROSSED_THREADS + [(WIDE, [0, 1])]:
                self.assertIsNone(leading_change(thread, other))
                self.assertIsNone(leading_change(other=thread, thread=other))

    def test_what_stays(self):
        """Changes that can be undone lead no straightened thread to another kind, and leave how often it is walked."""
        for change in undoable(1713, 10):
            for thread in CROSSED_THREADS:
                if change.degree * greater_degree(thread) <= 18:
                    found = changed_thread(change, thread)
                    self.assert_bool(is_leading(thread, found, change), True)
                    self.assert_bool(is_leading(found, thread, undone(change)), True)
                    self.assertEqual(walked(found), walked(thread))
                    self.assert_bool(is_straightened(found), False)
                    if greater_degree(found) <= 4:
                        self.assertEqual(is_half(trace(found)), is_half(trace(thread)))

    def test_is_leading(self):
        draw = Draw(1714)
        for change in undoable(1715, 15):
            thread = draw.thread(1)
            other = changed_thread(change, thread)
            self.assert_bool(is_leading(thread, other, change), True)
            self.assert_bool(is_leading(thread, (tuple(other[0]) + (0,), other[1]), change), True)
            self.assert_bool(is_leading(thread, (put_in(other[0], [1, 1]), other[1]), change), fractions(other[0])[1:] == [])
            self.assert_bool(is_leading(thread, (other[1], other[0]), change), other[0] == other[1])
            moved = straight([[1, 0], [0, 1]], (0, 1))
            self.assert_bool(is_leading(thread, other, moved.behind(change)), False)
        # This one leads the thread there, but cannot be undone.
        self.assert_bool(is_leading(([0, 1], []), ([0, 1], []), Change(X, Y * Y)), False)
        self.assert_bool(is_leading(([0, 1], []), ([0, 1], []), Change(X + X * Y, Y)), False)
        self.assert_bool(is_leading(([0, 1], []), ([0, 1], []), Change(X + Y * Y, Y)), True)

    def test_without_a_bound(self):
        wide = shear((0, 1), [0] * 18 + [1])
        thread = changed_thread(wide, ([0, 1], []))
        other = changed_thread(shear((1, 0), [0, 0, 0, 1]), ([0, 0, 1], [0, 0, 0, 0, 0, 1]))
        self.assert_bool(is_leading(thread, ([0, 1], []), undone(wide)), True)
        self.assert_bool(is_leading(thread, ([0, 1], [1]), undone(wide)), False)
        self.assert_bool(is_leading((WIDE, WIDE), other, wide), False)
        self.assert_bool(is_leading(([0] * 5 + [1], [0, 0, 1]), other, shear((1, 1), [0] * 9 + [1])), False)

    def test_no_number_grows_too_long(self):
        draw = Draw(1716)

        def long_number():
            return Ratio(100000 + draw.below(900000), 100000 + draw.below(900000))

        for degrees in ([2, 3, 3], [9, 2]):
            shears = [((1, long_number()), [0, 0] + [long_number() for _ in range(many - 1)]) for many in degrees]
            front = straight([[long_number(), 3], [long_number(), long_number()]], (long_number(), long_number()))
            other = changed_thread(word_change((front, shears)), ([long_number(), long_number()], [long_number(), 2]))
            thread = ([long_number(), long_number()], [2, long_number()])
            found = leading_change(thread, other)
            self.assertLessEqual(longest_digits(found), 2000)
            self.assert_bool(is_leading(thread, other, found), True)
            bent = word_change((front, shears))
            ahead = straight([[long_number(), 3], [long_number(), long_number()]], (long_number(), long_number()))
            for change in (bent, bent.behind(ahead)):
                for poly in (change.first, change.second):
                    self.assertLessEqual(longest_digits(level_thread(poly, long_number())), 2000)

    def test_wrong_values(self):
        for wrong in not_threads():
            with self.subTest(wrong):
                self.refused_value(InvalidThread, wrong, leading_change, wrong, ([0, 1], []))
                self.refused_value(InvalidThread, wrong, leading_change, other=None, thread=wrong)
                self.refused_value(InvalidThread, wrong, leading_change, ([0, 0, 1], []), wrong)
                self.refused_value(InvalidThread, wrong, leading_change, other=wrong, thread=(WIDE, WIDE))
                self.refused_value(InvalidThread, wrong, is_leading, wrong, ([0, 1], []), Change.same())
                self.refused_value(InvalidThread, wrong, is_leading, value=None, other=None, thread=wrong)
                self.refused_value(InvalidThread, wrong, is_leading, ([0, 1], []), wrong, Change.same())
                self.refused_value(InvalidThread, wrong, is_leading, value=None, other=wrong, thread=([0, 1], []))
        for wrong in not_changes() + [Change, ([0, 1], [])]:
            with self.subTest(wrong):
                self.assert_bool(is_leading(([0, 1], []), ([0, 1], []), wrong), False)
                self.assert_bool(is_leading(value=wrong, other=(WIDE, []), thread=(WIDE, WIDE)), False)

    def test_examples(self):
        self.assertIsNone(leading_change(([0, 1], [5]), ([0, 0, 1], [0, 0, 0, 1])))
        self.assertEqual(self.check(([0, 1], []), ([0, 1], [])), Change.same())
