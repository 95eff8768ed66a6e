"""straightened.texts and straightened.numerals: point 91."""

from straightened.changes import Change
from straightened.errors import InvalidThing
from straightened.numerals import amount_of, count_of, direction_told, number_of, numbers_of
from straightened.polys import Poly
from straightened.ratios import Ratio
from straightened.steps import own_steps
from straightened.straights import straight
from straightened.texts import written
from straightened.threads import is_thread
from straightened.words import word_of
from tests.helpers import (
    Case, Draw, drawn_steps, fraction, fractions, not_lists, not_steps, not_threads, not_words, strange, undoable,
)

X, Y = Poly.x(), Poly.y()
UP, ALONG = ((0, 1), [0, 0, 1]), ((1, 0), [0, 0, 1])


def number_word(number):
    found = fraction(number)
    return str(found.numerator) if found.denominator == 1 else f"{found.numerator}/{found.denominator}"


def row(*words):
    return " ".join(words) + "\n"


def product_rows(name, poly):
    return "".join([row(name, str(i), str(j), number_word(amount)) for i, j, amount in sorted(poly.entries())])


def line_row(name, line):
    return row(name, *[number_word(number) for number in fractions(line)])


def slow_written_word(word):
    change, shears = word
    numbers = [half.amount(*powers) for half in (change.first, change.second) for powers in ((1, 0), (0, 1))]
    found = row("word") + row("rows", *[number_word(number) for number in numbers])
    found += row("point", number_word(change.first.amount(0, 0)), number_word(change.second.amount(0, 0)))
    for direction, line in shears:
        name = "-" if fraction(direction[0]) == 0 else number_word(direction[1])
        found += row("shear", name, *[number_word(number) for number in fractions(line)[2:]])
    return found


class WrittenTest(Case):
    def test_polys_and_changes(self):
        draw = Draw(2001)
        for _ in range(40):
            poly, change = draw.poly(6), draw.change(5)
            self.assertEqual(written(poly), "poly\n" + product_rows("product", poly))
            wanted = "change\n" + product_rows("first", change.first) + product_rows("second", change.second)
            self.assertEqual(written(change), wanted)
            self.assertEqual(written(thing=change), wanted)
        self.assertEqual(written(Poly()), "poly\n")
        self.assertEqual(written(Change(Poly(), Poly())), "change\n")
        self.assertEqual(written(Poly([(18, 0, -1), (0, 18, Ratio(-3, 2)), (0, 0, 7)])),
                         "poly\nproduct 0 0 7\nproduct 0 18 -3/2\nproduct 18 0 -1\n")
        self.assertEqual(written(Change(X, Y)), "change\nfirst 1 0 1\nsecond 0 1 1\n")

    def test_words(self):
        draw = Draw(2002)
        for _ in range(40):
            word = draw.word(draw.below(5))
            self.assertEqual(written(word), slow_written_word(word))
        for change in undoable(2003, 6):
            self.assertEqual(written(word_of(change)), slow_written_word(word_of(change)))
        turn = straight([[0, 1], [Ratio(-1, 2), 0]], (2, 0))
        self.assertEqual(written((turn, [ALONG, ((0, 1), (0, 0, 0, Ratio(5, 3), 0)), ((1, Ratio(-1, 2)), [0, 0, 2])])),
                         "word\nrows 0 1 -1/2 0\npoint 2 0\nshear 0 1\nshear - 0 5/3\nshear -1/2 2\n")
        self.assertEqual(written((Change.same(), ())), "word\nrows 1 0 0 1\npoint 0 0\n")

    def test_threads(self):
        draw = Draw(2004)
        for _ in range(60):
            thread = draw.thread(5)
            self.assertEqual(written(thread), "thread\n" + line_row("first", thread[0]) + line_row("second", thread[1]))
        self.assertEqual(written(([], [0, Ratio(3, 2), 0])), "thread\nfirst\nsecond 0 3/2\n")
        self.assertEqual(written(((0, 0, -1), (0,))), "thread\nfirst 0 0 -1\nsecond\n")

    def test_steps(self):
        for seed in range(2010, 2030):
            steps = drawn_steps(seed, seed % 7, 18)
            wanted = "steps\n" + "".join([row("step", str(place), number_word(number), str(many)) for place, number, many in steps])
            self.assertEqual(written(steps), wanted)
            if len(steps) != 2:
                self.assertEqual(written(tuple(steps)), wanted)
        for change in undoable(2005, 4):
            self.assertIn("step ", written(own_steps(change)))
        self.assertEqual(written([]), "steps\n")
        self.assertEqual(written(()), "steps\n")
        self.assertEqual(written([(1, Ratio(-1, 2), 18)] * 60), "steps\n" + "step 1 -1/2 18\n" * 60)
        self.refused_value(InvalidThing, [(1, 1, 1)] * 61, written, [(1, 1, 1)] * 61)

    def test_the_first_one_of_the_table(self):
        """A tuple of two steps is a thread, too."""
        steps = ((0, 2, 3), (1, Ratio(1, 2), 1))
        self.assertEqual(written(steps), "thread\nfirst 0 2 3\nsecond 1 1/2 1\n")
        self.assertEqual(written(list(steps)), "steps\nstep 0 2 3\nstep 1 1/2 1\n")

    def test_all_else(self):
        wrongs = strange() + [0, 5, Ratio(1), "poly\n", "", [1, 2], (1, 2), Draw, [X], (X, Y), [X, Y], [UP], (UP,)]
        wrongs += [[wrong] for wrong in not_steps()] + [[(0, 1, 1), wrong] for wrong in not_steps()]
        wrongs += [wrong for wrong in not_words() + not_threads() + not_lists() if not self.has_a_form(wrong)]
        for wrong in wrongs:
            with self.subTest(wrong):
                self.refused_value(InvalidThing, wrong, written, wrong)
                self.refused_value(InvalidThing, wrong, written, thing=wrong)

    def has_a_form(self, value):
        """What stands among the wrong words and threads, but is a thing of another kind."""
        return isinstance(value, (Poly, Change)) or value in ((), []) or is_thread(value)

    def test_examples(self):
        found = [written(Poly([(1, 1, 3), (0, 2, 1)])), written(([0, 1], [0, 0, 1])), written([(0, 2, 3)])]
        self.assertEqual(found, [
            "poly\nproduct 0 2 1\nproduct 1 1 3\n", "thread\nfirst 0 1\nsecond 0 0 1\n", "steps\nstep 0 2 3\n",
        ])


class NumeralsTest(Case):
    def test_counts(self):
        for word, count in (("0", 0), ("7", 7), ("10", 10), ("99", 99), ("908", 908)):
            self.assert_integer(count_of(word, 3), count)
        for word in ("", "00", "07", "-1", "+1", "1.0", "1/1", "a", " 1", "1 ", "1000", "1_0", "0x1"):
            self.assertIsNone(count_of(word, 3))

    def test_numbers(self):
        for word, number in (
            ("0", 0), ("-5", -5), ("12", 12), ("3/2", Ratio(3, 2)), ("-1/999999", Ratio(-1, 999999)), ("999999", 999999),
            ("-999999/2", Ratio(-999999, 2)),
        ):
            self.assert_ratio(number_of(word, 6), number)
            self.assertEqual(number_word(number), word)
        for word in (
            "", "-", "-0", "--1", "00", "01", "-01", "2/4", "0/2", "0/1", "5/1", "5/0", "1/-2", "-1/-2", "1/2/3", "/2", "1/",
            "1/02", "+1", "1000000", "1/1000000", "-1000000", "1 /2", "x", "1.5", "1,5", "-0/2", "6/3", "1//2",
        ):
            with self.subTest(word):
                self.assertIsNone(number_of(word, 6))
                self.assertIsNone(amount_of(word, 6))
                self.assertIsNone(numbers_of(["1", word], 6))
        self.assertIsNone(amount_of("0", 6))
        self.assert_ratio(amount_of("-1/2", 6), Ratio(-1, 2))
        self.assertEqual(numbers_of([], 6), [])

    def test_directions(self):
        self.assert_pair(direction_told("-", 6), (0, 1))
        self.assert_pair(direction_told("0", 6), (1, 0))
        self.assert_pair(direction_told("-3/2", 6), (1, Ratio(-3, 2)))
        for word in ("", "--", "-0", "y", "1/1"):
            self.assertIsNone(direction_told(word, 6))
