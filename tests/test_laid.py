"""straightened.laid: points 73 and 74."""

from fractions import Fraction

from straightened.changes import Change
from straightened.errors import InvalidThread
from straightened.laid import back, is_back, is_straightener, straightener
from straightened.polys import Poly
from straightened.ratios import Ratio
from straightened.shears import shear
from straightened.stops import can_be_undone
from straightened.straights import straight
from straightened.threads import changed_thread, is_straightened
from straightened.undoing import undone
from straightened.words import word_change
from tests.helpers import (
    Case, CROSSED_THREADS, Draw, STRAIGHT_THREADS, bent_threads, longest_digits, not_changes, not_polys, not_threads,
    slow_along, slow_degree,
)

X, Y = Poly.x(), Poly.y()
NUMBER = Poly.number
ONE_STEP = [Fraction(0), Fraction(1)]
WIDE = [0] * 18 + [1]


def greater_degree(thread):
    return max(slow_degree(thread[0]), slow_degree(thread[1]))


def drawn_straightened(seed, many=25):
    return [thread for thread, _ in bent_threads(seed, many, STRAIGHT_THREADS)]


class StraightenerTest(Case):
    def check(self, thread):
        found = straightener(thread)
        self.assertIs(found.__class__, Change)
        self.assert_bool(can_be_undone(found), True)
        self.assertEqual(slow_along(found.first, thread), ONE_STEP)
        self.assertEqual(slow_along(found.second, thread), [])
        self.assertLessEqual(found.degree, greater_degree(thread))
        self.assert_bool(is_straightener(thread, found), True)
        self.assert_bool(is_straightener(value=found, thread=thread), True)
        self.assertEqual(straightener(thread=thread), found)
        return found

    def test_of_straight_threads(self):
        for thread in STRAIGHT_THREADS:
            self.assertEqual(self.check(thread).degree, 1)
        self.assertEqual(straightener(([0, 1], [])), Change.same())

    def test_of_bent_threads(self):
        threads = drawn_straightened(1301)
        for thread in threads:
            found = self.check(thread)
            self.assert_thread(changed_thread(undone(found), ([0, 1], [])), thread)
        self.assertGreater(len({greater_degree(thread) for thread in threads}), 2)

    def test_of_drawn_threads(self):
        draw, found = Draw(1302), []
        for _ in range(120):
            thread = draw.thread(4)
            if is_straightened(thread):
                found.append(self.check(thread).degree)
            else:
                self.assertIsNone(straightener(thread))
        self.assertGreater(len(found), 20)

    def test_of_degree_eighteen(self):
        wide = shear((0, 1), [0, 0, 1, 2]).behind(shear((1, 1), [0] * 6 + [2]))
        cube = shear((1, 2), [0, 1, 0, 3]).behind(shear((0, 1), [0, 0, 1])).behind(shear((1, 0), [0, 0, 0, 2]))
        for thread in (
            (WIDE, [0, 2]), ([5, 7], tuple(range(19))), changed_thread(wide, ([1, 2], [3, 4])),
            changed_thread(cube, ([0, 1], [1, 1])), ([0] * 9 + [1] + WIDE[10:], [3, Ratio(1, 2)]),
        ):
            self.assertEqual(self.check(thread).degree, 18)

    def test_there_is_none(self):
        threads = CROSSED_THREADS + [thread for thread, _ in bent_threads(1303, 25, CROSSED_THREADS)]
        for thread in threads + [(WIDE, WIDE), (WIDE, [0] * 17 + [1]), ([4], WIDE)]:
            with self.subTest(thread):
                self.assertIsNone(straightener(thread))
                self.assertIsNone(back(thread))
                for value in (Change.same(), Change(Y, X), Change(X, Poly()), Change(X * X, Y)):
                    self.assert_bool(is_straightener(thread, value), False)
                for value in (X, Y, X * Y, X + Y, NUMBER(1), Poly()):
                    self.assert_bool(is_back(thread, value), False)

    def test_other_straighteners(self):
        draw, degrees = Draw(1304), []
        for thread in drawn_straightened(1305):
            found = straightener(thread)
            # These leave all points (t, 0) where they are.
            for many in range(2, 18 // found.degree + 1):
                line = [0] * many + [draw.but_nought()]
                kept = shear((1, 0), line).behind(straight([[1, draw.number()], [0, draw.but_nought()]], (0, 0)))
                self.assert_bool(is_straightener(thread, kept.behind(found)), True)
                degrees.append(kept.degree * found.degree * greater_degree(thread))
            for moved in (
                straight([[1, 0], [0, 1]], (1, 0)), straight([[1, 0], [0, 1]], (0, Ratio(1, 3))),
                straight([[2, 0], [0, 1]], (0, 0)), straight([[1, 0], [1, 1]], (0, 0)), straight([[0, 1], [1, 0]], (0, 0)),
            ):
                self.assert_bool(is_straightener(thread, moved.behind(found)), False)
            if 2 * found.degree <= 18:
                self.assert_bool(is_straightener(thread, shear((0, 1), [0, 0, 1]).behind(found)), False)
        self.assertGreater(max(degrees), 100)

    def test_both_lines_tell(self):
        for thread, value in (
            (([0, 1], []), Change(X.scaled(2), Y)), (([0, 1], []), Change(X + NUMBER(1), Y)), (([0, 1], []), Change(X, Y + NUMBER(1))),
            (([0, 1], []), Change(X, X + Y)), (([5], [0, 1]), Change(Y, X)), (([], [0, 1]), Change(Y.scaled(3), X)),
        ):
            self.assert_bool(is_straightener(thread, value), False)
        self.assert_bool(is_straightener(([5], [0, 1]), Change(Y, X - NUMBER(5))), True)

    def test_changes_that_cannot_be_undone(self):
        for value in (Change(X, Poly()), Change(X, Y * Y), Change(X, X * Y), Change(X + X * Y, Y), Change(X + Y * X, Y * X)):
            self.assertEqual(slow_along(value.first, ([0, 1], [])), ONE_STEP)
            self.assertEqual(slow_along(value.second, ([0, 1], [])), [])
            self.assert_bool(is_straightener(([0, 1], []), value), False)

    def test_values_of_all_kinds(self):
        for wrong in not_changes() + [([0, 1], []), Change]:
            with self.subTest(wrong):
                self.assert_bool(is_straightener(([0, 1], []), wrong), False)
                self.assert_bool(is_straightener(value=wrong, thread=(WIDE, WIDE)), False)

    def test_wrong_values(self):
        for wrong in not_threads():
            with self.subTest(wrong):
                for function in (straightener, back):
                    self.refused_value(InvalidThread, wrong, function, wrong)
                    self.refused_value(InvalidThread, wrong, function, thread=wrong)
                for function in (is_straightener, is_back):
                    self.refused_value(InvalidThread, wrong, function, wrong, None)
                    self.refused_value(InvalidThread, wrong, function, value=Change.same(), thread=wrong)

    def test_nothing_is_changed(self):
        thread = ([0, 1, 1], [0, 1, 1, 2, 1])
        self.check(thread)
        back(thread)
        self.assertEqual(thread, ([0, 1, 1], [0, 1, 1, 2, 1]))

    def test_no_number_grows_too_long(self):
        """Threads bent by words of long numbers: what is told keeps within 2,000 digits."""
        draw = Draw(1306)

        def long_number():
            return Ratio(100000 + draw.below(900000), 100000 + draw.below(900000))

        for degrees in ([18], [9, 2], [2, 3, 3], [2, 2, 2, 2]):
            shears = [((1, long_number()), [0, 0] + [long_number() for _ in range(many - 1)]) for many in degrees]
            front = straight([[long_number(), 3], [long_number(), long_number()]], (long_number(), long_number()))
            thread = changed_thread(word_change((front, shears)), ([long_number(), long_number()], [long_number(), 2]))
            found = straightener(thread)
            self.assertLessEqual(longest_digits(found), 2000)
            self.assert_bool(is_straightener(thread, found), True)


class BackTest(Case):
    def test_of_bent_threads(self):
        for thread in drawn_straightened(1311) + STRAIGHT_THREADS:
            found = back(thread)
            self.assertIs(found.__class__, Poly)
            self.assertEqual(slow_along(found, thread), ONE_STEP)
            self.assert_bool(is_back(thread, found), True)
            self.assert_bool(is_back(value=found, thread=thread), True)
            self.assertEqual(back(thread=thread), found)
            self.assert_bool(is_back(thread, straightener(thread).first), True)
            for wrong in (found + NUMBER(1), found.scaled(2), found + X * Y, -found, found * found):
                self.assert_bool(is_back(thread, wrong), slow_along(wrong, thread) == ONE_STEP)

    def test_other_backs(self):
        draw = Draw(1312)
        for thread in drawn_straightened(1313, 12):
            change = straightener(thread)
            if change.degree * 3 <= 18:
                # What is 0 along the thread may be added.
                other = change.first + change.second * draw.poly(3) * change.second
                self.assert_bool(is_back(thread, other), True)
                self.assert_bool(is_back(thread, other + change.first * change.second + NUMBER(2)), False)

    def test_without_a_bound(self):
        wide = shear((0, 1), [0, 0, 1, 2]).behind(shear((1, 1), [0] * 6 + [2]))
        thread = changed_thread(wide, ([1, 2], [3, 4]))
        found = back(thread) + straightener(thread).second
        self.assertEqual(found.degree * greater_degree(thread), 18 * 18)
        self.assert_bool(is_back(thread, found), True)
        self.assert_bool(is_back(thread, found + NUMBER(1)), False)
        self.assert_bool(is_back(thread, found + Poly([(9, 9, 1)])), False)
        self.assert_bool(is_back(([0, 1], WIDE), X + Poly([(0, 18, 1)]) - Poly([(0, 18, 1)])), True)
        self.assert_bool(is_back(([0, 1], WIDE), X + Poly([(0, 18, 1)])), False)

    def test_values_of_all_kinds(self):
        for wrong in not_polys() + [[0, 1], Poly]:
            with self.subTest(wrong):
                self.assert_bool(is_back(([0, 1], []), wrong), False)
                self.assert_bool(is_back(value=wrong, thread=(WIDE, [])), False)

    def test_examples(self):
        self.assert_bool(is_straightener(([0, 0, 1], [0, 1]), Change(Y, X - Y * Y)), True)
        self.assertIsNone(straightener(([0, 0, 1], [0, 0, 0, 0, 1])))
        self.assert_bool(is_back(([0, 0, 1], [0, 1]), Y), True)
        self.assert_bool(is_back(([0, 0, 1], [0, 1]), X), False)
