"""straightened.walked: points 83, 84 and 85."""

from fractions import Fraction

from straightened.errors import InvalidLine, InvalidThread
from straightened.lines import common, minus, put_in
from straightened.ratios import Ratio
from straightened.threads import changed_thread, is_straightened
from straightened.walked import inner, is_through, outer, through, walked
from tests.helpers import (
    Case, CROSSED_THREADS, Draw, STRAIGHT_THREADS, bent_threads, fraction, fractions, not_lines, not_threads, slow_degree,
    slow_line_put, undoable,
)

WIDE = [0] * 18 + [1]
SHARP = ([0, 0, 1], [0, 0, 0, 1])


def drawn_line(draw, many):
    """A line of just this degree, a list or a tuple, perhaps with noughts at its end."""
    found = [draw.number(3) for _ in range(many)] + [draw.but_nought(3)] + [0] * draw.below(3)
    return found if draw.below(2) else tuple(found)


def slow_walked(thread):
    """By Lueroth's fact: the least degree of the common part of both lines less their worths at some numbers."""
    found = []
    for number in range(-4, 5):
        less = [minus(line, [slow_worth(line, number)]) for line in thread]
        found.append(slow_degree(common(less[0], less[1])))
    return min(found)


def slow_worth(line, number):
    found = sum([fraction(one) * number ** power for power, one in enumerate(line)], Fraction(0))
    return Ratio(found.numerator, found.denominator)


class ThroughTest(Case):
    def test_lines_put_into_lines(self):
        draw = Draw(1501)
        for _ in range(100):
            wide = 1 + draw.below(4)
            line, other = draw.line(30 // wide // 2), drawn_line(draw, wide)
            whole = put_in(line, other)
            found = through(whole, other)
            self.assert_line(found, line)
            self.assert_line(through(other=other, line=tuple(whole) + (0,) * (len(whole) < 31)), line)

    def test_there_is_none(self):
        draw = Draw(1502)
        for _ in range(60):
            wide = 2 + draw.below(3)
            line, other = draw.line(5), drawn_line(draw, wide)
            whole = put_in(line, other)
            # A multiple of t itself does not go through a line of a greater degree.
            bent = minus(whole, [0, draw.but_nought()])
            self.assertIsNone(through(bent, other))
            self.assertIsNone(through(other=other, line=bent))
        self.assertIsNone(through([0, 1], [0, 0, 1]))
        self.assertIsNone(through([0, 0, 0, 1], [0, 0, 1]))
        self.assertIsNone(through([0, 1, 0, 0, 1], [0, 0, 1]))
        self.assertIsNone(through([0] * 30 + [1], [0] * 29 + [1]))

    def test_numbers_and_noughts(self):
        for line in ([], [0], [5], (Ratio(1, 2), 0, 0)):
            for other in ([0, 1], [3, 4], [1, 2, 3], WIDE):
                self.assert_line(through(line, other), line)
        self.assert_line(through([3, 4], [3, 4]), [0, 1])
        self.assert_line(through([1, 2, 3, 4], [0, 1]), [1, 2, 3, 4])
        self.assert_line(through([1, 2], [5, -1]), [11, -2])
        self.assert_line(through([0] * 30 + [1], [0, 0, 1]), [0] * 15 + [1])
        self.assert_line(through([0] * 30 + [1], [0] * 30 + [2]), [0, Ratio(1, 2)])
        self.assert_line(through(list(range(31)), [0, -1, 0]), [number * (-1) ** number for number in range(31)])

    def test_wrong_values(self):
        for wrong in not_lines():
            with self.subTest(wrong):
                self.refused_value(InvalidLine, wrong, through, wrong, [0, 1])
                self.refused_value(InvalidLine, wrong, through, other=[5], line=wrong)
                self.refused_value(InvalidLine, wrong, through, [0, 1], wrong)
                self.refused_value(InvalidLine, wrong, through, other=wrong, line=[])
        for wrong in ([], [0], [5], (0, 0), (Ratio(1, 2), 0, 0), [0] * 31):
            self.refused_value(InvalidLine, wrong, through, [0, 1], wrong)
            self.refused_value(InvalidLine, wrong, through, other=wrong, line=[])

    def test_told_lists_are_new(self):
        line, other = [0, 0, 1, 2, 1], [0, 1, 1]
        through(line, other).append(5)
        self.assert_line(through(line, other), [0, 0, 1])
        self.assertEqual((line, other), ([0, 0, 1, 2, 1], [0, 1, 1]))


class InnerTest(Case):
    def check(self, thread):
        found, many, taken_out = inner(thread), walked(thread), outer(thread)
        self.assert_integer(many, len(found) - 1)
        self.assertEqual(fraction(found[0]), 0)
        self.assertEqual(fraction(found[-1]), 1)
        self.assert_line(found, found)
        self.assert_thread(taken_out, taken_out)
        for part, line in zip(taken_out, thread):
            self.assertEqual(slow_line_put(part, found), fractions(line))
            self.assertEqual(through(line, found), part)
        self.assertEqual(many, slow_walked(thread))
        self.assertEqual(slow_walked(taken_out), 1)
        self.assert_line(inner(taken_out), [0, 1])
        self.assert_bool(is_through(thread, found), True)
        self.assertEqual(inner(thread=thread), found)
        self.assertEqual(outer(thread=thread), taken_out)
        self.assertEqual(walked(thread=thread), many)
        return found

    def test_of_drawn_threads(self):
        draw = Draw(1511)
        for _ in range(60):
            self.check(draw.thread(5))

    def test_of_threads_walked_more_often(self):
        draw, found = Draw(1512), []
        for _ in range(60):
            thread, wide = draw.thread(4), 1 + draw.below(4)
            line = drawn_line(draw, wide)
            late = put_in(thread[0], line), put_in(thread[1], line)
            self.check(late)
            self.assertEqual(walked(late), walked(thread) * wide)
            self.assert_bool(is_through(late, line), True)
            found.append(walked(late))
        self.assertGreater(len(set(found)), 4)

    def test_of_bent_threads(self):
        for thread, _ in bent_threads(1513, 15, STRAIGHT_THREADS):
            self.assertEqual(self.check(thread), [Ratio(0), Ratio(1)])
            self.assert_bool(is_straightened(thread), True)
        for change in undoable(1514, 10):
            for thread in CROSSED_THREADS:
                if change.degree * max([slow_degree(line) for line in thread]) <= 18:
                    found = changed_thread(change, thread)
                    self.assertEqual(self.check(found), inner(thread))

    def test_examples_and_edges(self):
        self.assert_line(self.check(([0, 0, 1], [0, 0, 0, 0, 1])), [0, 0, 1])
        self.assert_thread(outer(([0, 0, 1], [0, 0, 0, 0, 1])), ([0, 1], [0, 0, 1]))
        self.assert_line(self.check(([1, 2, 2], [0, 0, 3, 6, 3])), [0, 1, 1])
        self.assert_thread(outer(([1, 2, 2], [0, 0, 3, 6, 3])), ([1, 2], [0, 0, 3]))
        self.assert_line(self.check(([1, 2, 2], [0, 1, 1])), [0, 1, 1])
        self.assert_line(self.check(([0, 1, 1], [0, 1, 2])), [0, 1])
        self.assert_line(self.check(SHARP), [0, 1])
        # A number goes through each line, so the other line alone tells.
        self.assert_line(self.check(([5], [3, 4, 0, 2])), [0, 2, 0, 1])
        self.assert_thread(outer(([5], [3, 4, 0, 2])), ([5], [3, 2]))
        self.assert_thread(outer(([3, 6, 3], [])), ([3, 3], []))
        self.assertEqual(walked(([], WIDE)), 18)
        self.assertEqual(walked((WIDE, WIDE)), 18)
        self.assertEqual(walked((WIDE, [0] * 12 + [1])), 6)
        self.assertEqual(walked((WIDE, [0] * 12 + [1, 1])), 1)
        self.assertEqual(walked((WIDE, [1] + [0] * 8 + [5])), 9)
        self.assertEqual(walked(([7], [0, Ratio(1, 3)])), 1)
        self.assertEqual(walked(((0, 1, 0), (0, 1, 0))), 1)

    def test_is_through(self):
        late = ([1, 2, 2], [0, 0, 3, 6, 3])
        for line in ([0, 1], (5, 7), [3, Ratio(1, 2), 0], [0, 1, 1], [7, 2, 2], (0, Ratio(-1, 3), Ratio(-1, 3), 0)):
            self.assert_bool(is_through(late, line), True)
            self.assert_bool(is_through(value=line, thread=late), True)
        for line in ([0, 0, 1], [0, 1, 2], [0, 0, 3, 6, 3], [1, 0, 0, 1], [0, 1, 1, 1], [0] * 30 + [1]):
            self.assert_bool(is_through(late, line), False)
        self.assert_bool(is_through(([3], [0, 0, 1]), [0, 0, 5]), True)
        self.assert_bool(is_through((WIDE, [1]), [0] * 9 + [1]), True)
        self.assert_bool(is_through((WIDE, [0, 1]), [0] * 9 + [1]), False)

    def test_values_of_all_kinds(self):
        for wrong in not_lines() + [[], [0], [5], (3, 0), [0] * 31]:
            with self.subTest(wrong):
                self.assert_bool(is_through(([0, 1], []), wrong), False)
                self.assert_bool(is_through(value=wrong, thread=([5], WIDE)), False)

    def test_wrong_values(self):
        for wrong in not_threads():
            with self.subTest(wrong):
                for function in (inner, outer, walked):
                    self.refused_value(InvalidThread, wrong, function, wrong)
                    self.refused_value(InvalidThread, wrong, function, thread=wrong)
                self.refused_value(InvalidThread, wrong, is_through, wrong, [0, 1])
                self.refused_value(InvalidThread, wrong, is_through, value=None, thread=wrong)

    def test_told_lists_are_new(self):
        thread = ([0, 0, 1], [0, 0, 0, 0, 1])
        inner(thread).append(5)
        outer(thread)[0].append(5)
        self.check(thread)
        self.assertEqual(thread, ([0, 0, 1], [0, 0, 0, 0, 1]))
