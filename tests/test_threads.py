"""straightened.threads: points 71, 72 and 75, and what is a thread of point 7."""

from fractions import Fraction

from straightened.changes import Change
from straightened.errors import InvalidChange, InvalidNumber, InvalidStep, InvalidThread, NoThread
from straightened.polys import Poly
from straightened.ratios import Ratio
from straightened.shears import shear
from straightened.straights import straight
from straightened.threads import (
    changed_thread, is_straightened, is_thread, is_thread_steps, is_thread_stop, thread_at, thread_led, thread_steps,
    thread_stop, thread_taken,
)
from straightened.undoing import undone
from tests.helpers import (
    Case, Draw, drawn_steps, fraction, fractions, not_changes, not_lists, not_numbers, not_steps, not_threads, pair,
    slow_change_at, slow_line_worth, strange, undoable,
)

X, Y = Poly.x(), Poly.y()
NUMBER = Poly.number
WIDE = [0] * 18 + [1]
STOPPED = [
    ("number", ([0, 0, 1], [5])), ("number", ([], [0, 0, 0, 1])), ("number", ([1, 2, 3], ())), ("number", ([7], WIDE)),
    ("degrees", ([0, 0, 1], [0, 0, 0, 1])), ("degrees", ([0, 0, 0, 1], (1, 1, 1))), ("degrees", (WIDE, [0] * 12 + [2])),
    ("degrees", ([0, 0, 0, 0, 1], [0, 1, 0, 0, 0, 0, 1])),
]
STRAIGHT = [([0, 1], []), ([7], [0, 3]), ([5, Ratio(1, 2)], (0, 0)), ([], [1, -1]), ((0, 4, 0), [3, 0, 0])]


def degree(line):
    return len(fractions(line)) - 1


def slow_times(one, two):
    found = [Fraction(0)] * (len(one) + len(two))
    for power, number in enumerate(one):
        for more, other in enumerate(two):
            found[power + more] += number * other
    return fractions(found)


def slow_taken(thread, step):
    place, number, many = step
    lines = [fractions(line) for line in thread]
    power = [Fraction(1)]
    for _ in range(many):
        power = slow_times(power, lines[1 - place])
    longest = max(len(power), len(lines[place]))
    padded = [line + [Fraction(0)] * (longest - len(line)) for line in (lines[place], power)]
    lines[place] = fractions([one - fraction(number) * other for one, other in zip(padded[0], padded[1])])
    return lines


def slow_own_step(lines):
    degrees = [degree(line) for line in lines]
    place = 0 if degrees[0] >= degrees[1] else 1
    if min(degrees) < 1 or degrees[place] % degrees[1 - place]:
        return None
    many = degrees[place] // degrees[1 - place]
    return place, lines[place][-1] / lines[1 - place][-1] ** many, many


def steps_that_can_be_taken(thread, seed, many, most=3, limit=8):
    """Drawn steps whose formal degrees stay below a limit, and the thread that they leave."""
    found = []
    for place, number, power in drawn_steps(seed, many, most):
        if max(degree(thread[1 - place]), 0) * power <= limit:
            found.append((place, number, power))
            thread = thread_taken(thread, found[-1])
    return found, thread


def contrary(step):
    return step[0], -step[1], step[2]


class IsThreadTest(Case):
    def test_threads(self):
        draw = Draw(1001)
        for thread in [draw.thread(6) for _ in range(30)] + STRAIGHT + [thread for _, thread in STOPPED]:
            self.assert_bool(is_thread(thread), True)
            self.assert_bool(is_thread(value=thread), True)
        for thread in ((WIDE, WIDE), (WIDE + [0] * 12, [Ratio(0)] * 31), ((0, 1), ()), ([], [0] * 18 + [Ratio(1, 2)])):
            self.assert_bool(is_thread(thread), True)

    def test_all_else(self):
        for wrong in not_threads():
            with self.subTest(wrong):
                self.assert_bool(is_thread(wrong), False)

    def test_points(self):
        draw = Draw(1002)
        for _ in range(40):
            thread, number = draw.thread(6), draw.number()
            wanted = [slow_line_worth(line, fraction(number)) for line in thread]
            self.assert_pair(thread_at(thread, number), wanted)
            self.assert_pair(thread_at(number=number, thread=thread), wanted)
        self.assert_pair(thread_at(([7], [0, 3]), 2), (7, 6))
        self.assert_pair(thread_at(([], WIDE), Ratio(1, 2)), (0, Ratio(1, 2 ** 18)))

    def test_wrong_values(self):
        for wrong in not_threads():
            with self.subTest(wrong):
                self.refused_value(InvalidThread, wrong, thread_at, wrong, 1)
                self.refused_value(InvalidThread, wrong, thread_at, number=None, thread=wrong)
                self.refused_value(InvalidThread, wrong, thread_taken, wrong, (0, 1, 1))
                self.refused_value(InvalidThread, wrong, thread_taken, step=None, thread=wrong)
                for function in (thread_steps, thread_led, thread_stop, is_straightened):
                    self.refused_value(InvalidThread, wrong, function, wrong)
                    self.refused_value(InvalidThread, wrong, function, thread=wrong)
                for function in (is_thread_steps, is_thread_stop):
                    self.refused_value(InvalidThread, wrong, function, wrong, [])
                    self.refused_value(InvalidThread, wrong, function, value=None, thread=wrong)
                self.refused_value(InvalidThread, wrong, changed_thread, Change.same(), wrong)
                self.refused_value(InvalidThread, wrong, changed_thread, thread=wrong, change=Change(Poly(), Poly()))
        for wrong in not_numbers():
            with self.subTest(wrong):
                self.refused_value(InvalidNumber, wrong, thread_at, ([0, 1], []), wrong)
                self.refused_value(InvalidNumber, wrong, thread_at, number=wrong, thread=(WIDE, WIDE))
        for wrong in not_steps():
            with self.subTest(wrong):
                self.refused_value(InvalidStep, wrong, thread_taken, ([0, 1], []), wrong)
                self.refused_value(InvalidStep, wrong, thread_taken, step=wrong, thread=(WIDE, WIDE))
        for wrong in not_changes():
            with self.subTest(wrong):
                self.refused_value(InvalidChange, wrong, changed_thread, wrong, ([0, 1], []))
                self.refused_value(InvalidChange, wrong, changed_thread, thread=None, change=wrong)


class TakenTest(Case):
    def test_what_is_left(self):
        draw = Draw(1011)
        for step in drawn_steps(1012, 60):
            thread = draw.thread(5)
            found = thread_taken(thread, step)
            self.assert_thread(found, slow_taken(thread, step))
            self.assert_thread(thread_taken(step=step, thread=thread), slow_taken(thread, step))
            self.assert_thread(thread_taken(found, contrary(step)), thread)
            self.assert_bool(is_thread(found), True)

    def test_it_is_the_change_of_the_step(self):
        draw = Draw(1013)
        for place, number, many in drawn_steps(1014, 30):
            thread = draw.thread(4)
            line = [0] * many + [-number]
            change = shear((1, 0) if place == 0 else (0, 1), line)
            self.assert_thread(thread_taken(thread, (place, number, many)), changed_thread(change, thread))

    def test_degree_eighteen_and_above(self):
        self.assert_thread(thread_taken(([], [0, 1]), (0, -1, 18)), (WIDE, [0, 1]))
        self.assert_thread(thread_taken((WIDE, WIDE), (0, 1, 1)), ([], WIDE))
        self.assert_thread(thread_taken((WIDE, [3]), (0, 1, 18)), ([-3 ** 18] + WIDE[1:], [3]))
        self.assert_thread(thread_taken(([], WIDE), (1, 5, 18)), ([], WIDE))
        self.assert_thread(thread_taken(([0, 0, 0, 1], []), (1, -2, 6)), ([0, 0, 0, 1], [0] * 18 + [2]))
        for thread, step in (
            (([0, 0, 1], [0, 1]), (1, 1, 10)), ((WIDE, [1]), (1, 1, 2)), (([0, 1], [0] * 9 + [1]), (0, 1, 3)),
            ((WIDE, WIDE), (0, 1, 2)), (([], [0] * 10 + [1]), (0, Ratio(1, 2), 2)),
        ):
            self.refused_degree(18, thread_taken, thread, step)
            self.refused_degree(18, thread_taken, step=step, thread=thread)


class OwnStepsTest(Case):
    def check(self, thread):
        steps, left = thread_steps(thread), [fractions(line) for line in thread]
        self.assertIs(steps.__class__, list)
        for step in steps:
            place, number, many = slow_own_step(left)
            self.assertIs(step.__class__, tuple)
            self.assert_integer(step[0], place)
            self.assert_ratio(step[1], number)
            self.assert_integer(step[2], many)
            ahead, left = left, slow_taken(left, step)
            self.assertLess(degree(left[place]), degree(ahead[place]))
        self.assertIsNone(slow_own_step(left))
        self.assert_thread(thread_led(thread), left)
        self.assert_thread(thread_led(thread=thread), left)
        self.assertEqual(thread_steps(thread=thread), steps)
        kind = self.kind_at_once(left)
        self.assertEqual(thread_stop(thread), kind)
        self.assertEqual(thread_stop(thread=thread), kind)
        self.assert_bool(is_straightened(thread), kind is None)
        self.assert_bool(is_straightened(thread=thread), kind is None)
        return kind

    def kind_at_once(self, lines):
        degrees = sorted([degree(line) for line in lines])
        if degrees[0] < 1:
            return None if degrees[1] == 1 else "number"
        return "degrees"

    def test_of_drawn_threads(self):
        draw = Draw(1021)
        kinds = [self.check(draw.thread(4)) for _ in range(150)]
        for kind in (None, "number", "degrees"):
            self.assertIn(kind, kinds)

    def test_of_threads_led_by_steps(self):
        for at, thread in enumerate(STRAIGHT * 5):
            left = steps_that_can_be_taken(thread, 1030 + at, 6)[1]
            self.assertIsNone(self.check(left))
        for at, (kind, thread) in enumerate(STOPPED * 3):
            left = steps_that_can_be_taken(thread, 1060 + at, 6, 2, 18)[1]
            self.assertIsNotNone(self.check(left))

    def test_of_threads_led_by_changes(self):
        straightened = 0
        for change in undoable(1022, 20):
            for at in range(4):
                thread = (STRAIGHT + [([0, 0, 1], [0, 0, 0, 1]), ([0, 0, 1], [1])])[(at * 3 + change.degree) % 7]
                if change.degree * max(degree(thread[0]), degree(thread[1])) <= 18:
                    found = changed_thread(change, thread)
                    self.assertEqual(self.check(found) is None, is_straightened(thread))
                    straightened += is_straightened(thread)
        self.assertGreater(straightened, 20)

    def test_examples(self):
        bent = ([0, 1, 1], [0, 1, 1, 2, 1])
        self.assertEqual(thread_steps(bent), [(1, Ratio(1), 2), (0, Ratio(1), 2), (0, Ratio(1), 1)])
        self.assert_thread(thread_led(bent), ([], [0, 1]))
        for thread in STRAIGHT:
            self.assert_alike(thread_steps(thread), [])
            self.assertIsNone(self.check(thread))
            self.assert_thread(thread_led(thread), thread)
        for kind, thread in STOPPED:
            self.assert_alike(thread_stop(thread), kind)
            self.assert_alike(thread_steps(thread), [])
            self.assertEqual(self.check(thread), kind)
        # Alike degrees lead the first line; it may become nought.
        self.assertEqual(thread_steps(([0, 1], [0, 2])), [(0, Ratio(1, 2), 1)])
        self.assert_thread(thread_led(([0, 1], [0, 2])), ([], [0, 2]))
        self.assertEqual(thread_steps(([1, 1], [0, 2])), [(0, Ratio(1, 2), 1)])
        self.assert_thread(thread_led(([1, 1], [0, 2])), ([1], [0, 2]))
        self.assertEqual(thread_stop(([0, 0, 1], [0, 0, 0, 0, 1])), "number")
        self.assertEqual(thread_stop(([0, 0, 1, 1], [0, 0, 0, 0, 0, 0, 1])), "degrees")

    def test_of_degree_eighteen(self):
        self.assertEqual(thread_steps((WIDE, [0, 2])), [(0, Ratio(1, 2 ** 18), 18)])
        self.assertIsNone(self.check((WIDE, [0, 2])))
        self.assertIsNone(self.check((list(range(19)), [5, 7])))
        self.assertEqual(self.check((WIDE, [0] * 9 + [1])), "number")
        self.assertEqual(self.check((WIDE, [0] * 17 + [1])), "degrees")
        wide = shear((0, 1), [0, 0, 1, 2]).behind(shear((1, 1), [0] * 6 + [2]))
        self.assertIsNone(self.check(changed_thread(wide, ([1, 2], [3, 4]))))


class PapersTest(Case):
    def test_steps(self):
        for at, thread in enumerate(STRAIGHT * 3):
            there, left = steps_that_can_be_taken(thread, 1101 + at, 5)
            steps = thread_steps(left)
            self.assert_bool(is_thread_steps(left, steps), True)
            self.assert_bool(is_thread_steps(value=tuple(steps), thread=left), True)
            self.assert_bool(is_thread_steps(left, [contrary(step) for step in there[::-1]]), True)
            for kind in ("number", "degrees"):
                self.assert_bool(is_thread_stop(left, (steps, kind)), False)
            if steps:
                place, number, many = steps[-1]
                self.assert_bool(is_thread_steps(left, steps[:-1]), False)
                self.assert_bool(is_thread_steps(left, steps[:-1] + [(place, number + 1, many)]), False)

    def test_stops(self):
        for at, (kind, thread) in enumerate(STOPPED * 2):
            there, left = steps_that_can_be_taken(thread, 1131 + at, 5, 2, 18)
            for name in ("number", "degrees"):
                self.assert_bool(is_thread_stop(thread, ([], name)), name == kind)
                self.assert_bool(is_thread_stop(left, (thread_steps(left), name)), name == thread_stop(left))
                back = tuple([contrary(step) for step in there[::-1]])
                self.assert_bool(is_thread_stop(value=(back, name), thread=left), name == kind)
            self.assert_bool(is_thread_steps(left, thread_steps(left)), False)

    def test_behind_which_an_own_step_can_be_taken(self):
        bent = thread_taken(([0, 0, 1], [0, 0, 0, 1]), (1, 3, 5))
        self.assert_bool(is_thread_stop(bent, ([], "degrees")), False)
        self.assert_bool(is_thread_stop(bent, ([(1, -3, 5)], "degrees")), True)
        self.assert_bool(is_thread_stop(bent, ([(1, -2, 5)], "degrees")), False)
        self.assert_bool(is_thread_stop(bent, ([(1, -3, 5)], "number")), False)
        self.assert_bool(is_thread_stop(([0, 1], []), ([], "number")), False)
        for thread in (([0, 1], [0, 0, 1]), ([0, 0, 1], [0, 1]), ([0, 1], [0, 1]), ([0, 0, 1], [0, 0, 2])):
            for kind in ("number", "degrees"):
                self.assert_bool(is_thread_stop(thread, ([], kind)), False)
            self.assert_bool(is_thread_steps(thread, []), False)

    def test_sixty_and_one_more(self):
        steps = [(0, 1, 18), (0, -1, 18)] * 30
        self.assert_bool(is_thread_steps(([], [0, 1]), steps), True)
        self.assert_bool(is_thread_steps(([], [0, 1]), tuple(steps + [(1, 1, 1)])), False)
        self.assert_bool(is_thread_stop(([], [0, 0, 1]), ([(0, 1, 9), (0, -1, 9)] * 30, "number")), True)
        self.assert_bool(is_thread_stop(([], [0, 0, 1]), ([(0, 1, 9), (0, -1, 9)] * 30 + [(1, 1, 1)], "number")), False)
        self.assert_bool(is_thread_steps(([0, 1], [3]), [(0, 5, 18), (0, Ratio(1, 7), 18)] * 30), True)

    def test_what_cannot_be_taken(self):
        self.assert_bool(is_thread_steps(([], [0, 1]), [(0, 1, 18), (0, -1, 18)]), True)
        self.assert_bool(is_thread_steps(([0, 0, 1], [0, 1]), [(1, 1, 9), (1, -1, 9), (0, 1, 2)]), True)
        self.assert_bool(is_thread_steps(([0, 0, 1], [0, 1]), [(1, 1, 10), (1, -1, 10), (0, 1, 2)]), False)
        self.assert_bool(is_thread_stop(([], [0, 0, 1]), ([(0, 1, 10), (0, -1, 10)], "number")), False)

    def test_values_of_all_kinds(self):
        wrongs = not_lists() + [[wrong] for wrong in not_steps()] + [(wrong,) for wrong in not_steps()]
        for wrong in wrongs + [(0, 1, 1), [(0, 1, 1), None]]:
            with self.subTest(wrong):
                self.assert_bool(is_thread_steps(([0, 1], []), wrong), False)
                self.assert_bool(is_thread_stop(([0, 0, 1], []), (wrong, "number")), False)
        wrongs = [([], wrong) for wrong in strange() + [0, 1, None, "Number", "numbers", ["number"], b"number"]]
        for wrong in wrongs + not_lists() + [(), ([],), ([], "number", 1), [[], "number"], ("number", []), "number", []]:
            with self.subTest(wrong):
                self.assert_bool(is_thread_stop(([0, 0, 1], []), wrong), False)
                self.assert_bool(is_thread_stop(value=wrong, thread=([0, 1], [])), False)


class ChangedThreadTest(Case):
    def test_points(self):
        draw, checked = Draw(1201), 0
        for _ in range(80):
            change, thread, number = draw.change(4), draw.thread(4), draw.number()
            lines = [half.along(thread[0], thread[1]) for half in (change.first, change.second)]
            if max([degree(line) for line in lines]) < 1:
                self.refused(NoThread, {}, changed_thread, change, thread)
            else:
                checked += 1
                found = changed_thread(thread=thread, change=change)
                self.assert_thread(found, lines)
                wanted = slow_change_at(change, pair(thread_at(thread, number)))
                self.assert_pair(thread_at(found, number), wanted)
        self.assertGreater(checked, 50)

    def test_led_and_led_back(self):
        draw = Draw(1202)
        for change in undoable(1203, 12):
            if change.degree <= 4:
                thread = draw.thread(1)
                found = changed_thread(change, thread)
                if change.degree * max([degree(line) for line in found]) <= 18:
                    self.assert_thread(changed_thread(undone(change), found), thread)
        turn = straight([[1, 2], [3, 4]], (5, Ratio(1, 6)))
        self.assert_thread(changed_thread(turn, (WIDE, [0, 1])), ([5, 2] + WIDE[2:], [Ratio(1, 6), 4] + [0] * 16 + [3]))

    def test_degree_eighteen_and_above(self):
        cube = [0, 0, 0, 1]
        for change, thread in (
            (Change(Poly([(18, 0, 1)]), Y), ([0, 1], [])), (Change(Poly([(6, 0, 1)]), Y), (cube, [1])),
            (Change(X, Y), (WIDE, WIDE)), (Change(NUMBER(3), Y), ([], WIDE)), (Change(Poly(), X), (WIDE, [0, 1])),
            (Change(Poly([(3, 6, 1)]), X), ([0, 0, 1], [0, 1])),
        ):
            found = changed_thread(change, thread)
            self.assertLessEqual(max([degree(line) for line in found]), 18)
        for change, thread in (
            (Change(Poly([(7, 0, 1)]), Y), (cube, [1])), (Change(X, Poly([(10, 0, 1)])), ([0, 0, 1], [])),
            # The thread's greater degree counts, also where the letter with the other line stands alone.
            (Change(Poly([(10, 0, 1)]), Y), ([0, 1], [0, 0, 1])), (Change(Y, X * X), ([0, 1], WIDE)),
            (Change(Poly([(9, 9, 1)]), Poly([(9, 9, 1)])), ([0, 0, 1], [])),
            # Both lines would be noughts.
            (Change(Poly([(0, 10, 1)]), Poly()), ([0, 0, 1], [])),
        ):
            self.refused_degree(18, changed_thread, change, thread)
            self.refused_degree(18, changed_thread, thread=thread, change=change)

    def test_no_thread(self):
        for change, thread in (
            (Change(Poly(), Poly()), ([0, 1], [])), (Change(NUMBER(1), NUMBER(2)), (WIDE, WIDE)),
            (Change(Y, Y * Y), ([0, 1], [5])), (Change(X - Y, (X - Y) * X), ([0, 0, 1], [0, 0, 1])),
            (Change(X * X - Y, NUMBER(3)), ([0, 1], [0, 0, 1])), (Change(Poly([(0, 18, 1)]), Y), ([0, 1], [])),
        ):
            self.refused(NoThread, {}, changed_thread, change, thread)
            self.refused(NoThread, {}, changed_thread, thread=thread, change=change)

    def test_told_lists_are_new_and_nothing_is_changed(self):
        thread = ([0, 1, 1], [0, 1, 1, 2, 1])
        for found in (thread_led(thread), thread_taken(thread, (0, 1, 1)), changed_thread(Change.same(), thread)):
            found[0].append(5)
            found[1].append(5)
        thread_steps(thread).append(5)
        self.assertEqual(thread, ([0, 1, 1], [0, 1, 1, 2, 1]))
        self.assertEqual(len(thread_steps(thread)), 3)
        self.assert_thread(thread_led(thread), ([], [0, 1]))
