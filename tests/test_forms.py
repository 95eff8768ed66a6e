"""straightened.forms: points 91 and 92."""

import re
from fractions import Fraction

from straightened.changes import Change
from straightened.errors import InvalidText
from straightened.forms import read
from straightened.polys import Poly
from straightened.ratios import Ratio
from straightened.texts import written
from tests.helpers import Case, Draw, drawn_steps, fraction, strange, undoable
from straightened.words import told_word, word_of
from straightened.threads import told_thread

COUNT = "(0|[1-9][0-9]*)"
NUMBER = "(-?[1-9][0-9]*(/[1-9][0-9]*)?|0)"


def number_told(word):
    """The worth of a word that is written as a number has to be; None of any other one."""
    if not re.fullmatch(NUMBER, word):
        return None
    found = Fraction(word)
    return found if word == str(found) else None


def numbers_told(words):
    found = [number_told(word) for word in words]
    return None if None in found else found


def counts_told(words):
    return [int(word) for word in words] if all(re.fullmatch(COUNT, word) for word in words) else None


def product_fits(row, name, ahead):
    """Whether the row is a product of this name behind the powers ahead of it; these of it, or None."""
    words = row.split(" ")
    if len(words) != 4 or words[0] != name:
        return None
    powers, amount = counts_told(words[1:3]), number_told(words[3])
    if powers is None or not amount or sum(powers) > 18 or (ahead is not None and powers <= ahead):
        return None
    return powers


def slow_wrong_line(text):
    """The wrong line by point 92, told by patterns; None if the text is a written form."""
    rows = text.split("\n")
    told = {
        "poly": slow_poly, "change": slow_change, "word": slow_word, "thread": slow_thread, "steps": slow_steps,
    }
    if len(rows) == 1 or rows[0] not in told:
        return 1
    at, least = told[rows[0]](rows[1:-1])
    if at is not None:
        return at + 2
    if len(rows) - 2 < least or rows[-1]:
        return len(rows)
    return None


def slow_poly(rows):
    ahead = None
    for at, row in enumerate(rows):
        ahead = product_fits(row, "product", ahead)
        if ahead is None:
            return at, 0
    return None, 0


def slow_change(rows):
    ahead, name = None, "first"
    for at, row in enumerate(rows):
        found = product_fits(row, name, ahead)
        if found is None and name == "first":
            name = "second"
            found = product_fits(row, name, None)
        if found is None:
            return at, 0
        ahead = found
    return None, 0


def slow_word(rows):
    ahead = None
    for at, row in enumerate(rows):
        words = row.split(" ")
        numbers = numbers_told(words[1:] if at < 2 else words[2:])
        if at == 0:
            fits = words[0] == "rows" and numbers is not None and len(numbers) == 4
            fits = fits and numbers[0] * numbers[3] != numbers[1] * numbers[2]
        elif at == 1:
            fits = words[0] == "point" and numbers is not None and len(numbers) == 2
        else:
            fits = words[0] == "shear" and len(words) > 2 and (words[1] == "-" or number_told(words[1]) is not None)
            fits = fits and numbers is not None and len(numbers) <= 17 and numbers[-1] != 0
            fits = fits and words[1] != ahead and at < 26
            ahead = words[1] if fits else None
        if not fits:
            return at, 2
    return None, 2


def slow_thread(rows):
    degrees = []
    for at, row in enumerate(rows):
        words = row.split(" ")
        numbers = numbers_told(words[1:])
        if at > 1 or words[0] != ["first", "second"][at] or numbers is None or len(numbers) > 19:
            return at, 2
        degrees.append(len(numbers) - 1)
        if (numbers and numbers[-1] == 0) or (at == 1 and max(degrees) < 1):
            return at, 2
    return None, 2


def slow_steps(rows):
    for at, row in enumerate(rows):
        words = row.split(" ")
        if len(words) != 4 or words[0] != "step" or words[1] not in ("0", "1") or not number_told(words[2]):
            return at, 0
        many = counts_told(words[3:])
        if many is None or not 1 <= many[0] <= 18 or at >= 60:
            return at, 0
    return None, 0


def things(seed, many):
    """Things of all five kinds, as they are told."""
    draw, found = Draw(seed), [Poly(), Change(Poly(), Poly()), (Change.same(), []), []]
    for at in range(many):
        found += [
            draw.poly(6), draw.change(4), told_word(draw.word(draw.below(5))), told_thread(draw.thread(4)),
            [(place, Ratio(1) * number, power) for place, number, power in drawn_steps(seed + at, draw.below(6), 18)],
        ]
    return found


class ReadTest(Case):
    def check_wrong(self, text):
        line = slow_wrong_line(text)
        if line is None:
            self.assertEqual(written(read(text)), text)
        else:
            self.refused(InvalidText, {"line": line}, read, text)
        return line

    def test_written_read_and_written_again(self):
        for thing in things(2101, 25):
            text = written(thing)
            found = read(text)
            self.assertIs(found.__class__, thing.__class__)
            self.assertEqual(found, thing)
            self.assertEqual(repr(found), repr(thing))
            self.assertEqual(written(read(text=text)), text)
            self.assertIsNone(slow_wrong_line(text))
        for change in undoable(2102, 5):
            for thing in (change, change.first, word_of(change)):
                self.assertEqual(repr(read(written(thing))), repr(thing))

    def test_lines_changed(self):
        """Each line left out, doubled, exchanged, cut, put in somewhere else, and lines of other texts put in."""
        draw, wrongs = Draw(2103), []
        texts = [written(thing) for thing in things(2104, 6)]
        for text in texts:
            rows = text.split("\n")[:-1]
            other = texts[draw.below(len(texts))].split("\n")[:-1]
            for at in range(len(rows)):
                moved = draw.below(len(rows))
                swapped = list(rows)
                swapped[at], swapped[moved] = rows[moved], rows[at]
                words = rows[at].split(" ")
                for changed in (
                    rows[:at] + rows[at + 1:], rows[:at + 1] + rows[at:], swapped, rows[:at], rows[:at] + [""] + rows[at:],
                    rows[:at] + [other[draw.below(len(other))]] + rows[at:], rows[:at] + other[at:],
                    rows[:at] + [rows[at] + " "] + rows[at + 1:], rows[:at] + [" " + rows[at]] + rows[at + 1:],
                    rows[:at] + [rows[at].replace(" ", "  ", 1)] + rows[at + 1:],
                    rows[:at] + [" ".join(words[:-1])] + rows[at + 1:], rows[:at] + [" ".join(words + ["0"])] + rows[at + 1:],
                    rows[:at] + [" ".join(words + ["1"])] + rows[at + 1:],
                    rows[:at] + [" ".join(words[:-1] + [("2/4", "-0", "00", "x", "1/1", "19", "-1", "1/2")[draw.below(8)]])]
                    + rows[at + 1:],
                ):
                    wrongs.append(self.check_wrong("".join([row + "\n" for row in changed])))
            wrongs += [self.check_wrong(text[:at]) for at in range(len(text))]
            wrongs += [self.check_wrong(text + more) for more in ("\n", " ", "x", "product 0 0 1", "step 0 1 1\n", "poly\n")]
        self.assertIn(None, wrongs)
        for line in range(1, 7):
            self.assertIn(line, wrongs)

    def test_told_wrong_lines(self):
        for line, text in (
            (1, ""), (1, "\n"), (1, "poly"), (1, "Poly\n"), (1, "poly \n"), (1, " poly\n"), (1, "polys\n"), (1, "\npoly\n"),
            (2, "poly\n\n"), (2, "poly\nproduct 0 0 1"), (2, "poly\nproduct 0 0 0\n"), (2, "poly\nproduct 0 19 1\n"),
            (2, "poly\nproduct 18 1 1\n"), (3, "poly\nproduct 1 0 1\nproduct 0 1 1\n"), (2, "poly\nfirst 0 0 1\n"),
            (3, "poly\nproduct 1 0 1\nproduct 1 0 2\n"), (2, "poly\nproduct 0 0 2/4\n"), (2, "poly\nproduct 0 0 -0\n"),
            (2, "poly\nproduct 00 0 1\n"), (2, "poly\nproduct -1 0 1\n"), (2, "poly\nproduct 0 0 5/1\n"),
            (3, "change\nsecond 0 0 1\nfirst 0 0 1\n"), (3, "change\nfirst 0 0 1\nfirst 0 0 1\n"), (2, "change\nproduct 0 0 1\n"),
            (2, "word\n"), (2, "word\nrows 1 2 2 4\n"), (2, "word\nrows 1 0 0\npoint 0 0\n"), (3, "word\nrows 1 0 0 1\n"),
            (2, "word\npoint 0 0\nrows 1 0 0 1\n"), (3, "word\nrows 1 0 0 1\npoint 0\n"), (3, "word\nrows 1 0 0 1\nshear - 1\n"),
            (4, "word\nrows 1 0 0 1\npoint 0 0\nshear -\n"), (4, "word\nrows 1 0 0 1\npoint 0 0\nshear\n"),
            (5, "word\nrows 1 0 0 1\npoint 0 0\nshear - 1\nshear - 2\n"), (4, "word\nrows 1 0 0 1\npoint 0 0\nshear 1 0\n"),
            (5, "word\nrows 1 0 0 1\npoint 0 0\nshear 1/2 1\nshear 1/2 2\n"), (4, "word\nrows 1 0 0 1\npoint 0 0\nrows 1 0 0 1\n"),
            (4, "word\nrows 1 0 0 1\npoint 0 0\nshear -" + " 0" * 17 + " 1\n"),
            (2, "thread\n"), (3, "thread\nfirst 0 1\n"), (2, "thread\nfirst 0 1 0\n"), (2, "thread\nfirst 0\n"),
            (3, "thread\nfirst 5\nsecond 7\n"), (3, "thread\nfirst\nsecond\n"), (3, "thread\nfirst 0 1\nsecond 0\n"),
            (4, "thread\nfirst 0 1\nsecond\nsecond\n"), (2, "thread\nsecond 0 1\nfirst\n"), (2, "thread\nfirst" + " 1" * 20 + "\n"),
            (2, "thread\nfirst \nsecond 0 1\n"), (3, "thread\nfirst\nsecond 0 1"),
            (2, "steps\nstep 2 1 1\n"), (2, "steps\nstep 0 0 1\n"), (2, "steps\nstep 0 1 0\n"), (2, "steps\nstep 0 1 19\n"),
            (2, "steps\nstep 0 1\n"), (3, "steps\nstep 0 1 1\nstep 0 1 1 1\n"), (62, "steps\n" + "step 0 1 1\n" * 61),
            (2, "steps\nstep 0 1/1 1\n"), (62, "steps\n" + "step 0 1 1\n" * 60 + "step"),
            (28, "word\nrows 1 0 0 1\npoint 0 0\n" + "shear - 1\nshear 0 1\n" * 12 + "shear - 1\n"),
        ):
            with self.subTest(text):
                self.assertEqual(slow_wrong_line(text), line)
                self.refused(InvalidText, {"line": line}, read, text)
                self.refused(InvalidText, {"line": line}, read, text=text)

    def test_the_greatest(self):
        for text in (
            "steps\n" + "step 0 1 1\n" * 60, "word\nrows 1 0 0 1\npoint 0 0\n" + "shear - 1\nshear 0 1\n" * 12,
            "word\nrows 0 1 1 0\npoint 0 1/2\nshear -3/2" + " 0" * 16 + " 1\n", "thread\nfirst\nsecond" + " 0" * 18 + " -1\n",
            "poly\nproduct 0 18 1\nproduct 18 0 1\n", "change\nsecond 9 9 -1/2\n", "thread\nfirst 5\nsecond 7 1\n",
            "poly\nproduct 0 0 " + "9" * 1900 + "/" + "7" * 1901 + "8\n",
        ):
            self.assertEqual(written(read(text)), text)

    def test_what_is_told(self):
        found = read("word\nrows 1 0 0 1/2\npoint 0 3\nshear 1/2 0 7\n")
        self.assertEqual(found[0], Change(Poly.x(), Poly([(0, 1, Ratio(1, 2)), (0, 0, 3)])))
        self.assertEqual(repr(found[1]), "[((Ratio(1, 1), Ratio(1, 2)), [Ratio(0, 1), Ratio(0, 1), Ratio(0, 1), Ratio(7, 1)])]")
        self.assertEqual(repr(read("thread\nfirst\nsecond 0 -1/2\n")), "([], [Ratio(0, 1), Ratio(-1, 2)])")
        self.assertEqual(repr(read("steps\nstep 0 -2 3\n")), "[(0, Ratio(-2, 1), 3)]")
        self.assertEqual(read("steps\n"), [])
        self.assertEqual(read("poly\n"), Poly())
        self.assertEqual(read("poly\nproduct 0 2 1/2\n").degree, 2)
        self.assertEqual(fraction(read("thread\nfirst 1\nsecond 0 1\n")[1][0]), 0)

    def test_no_strings(self):
        for wrong in strange() + [0, 1, Ratio(1), Poly(), [], ["poly\n"], ("poly", ""), b"poly\n"]:
            with self.subTest(wrong):
                if not isinstance(wrong, str):
                    self.refused(InvalidText, {"line": 0}, read, wrong)
                    self.refused(InvalidText, {"line": 0}, read, text=wrong)
                else:
                    self.refused(InvalidText, {"line": 1}, read, wrong)
