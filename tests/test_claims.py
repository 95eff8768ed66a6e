"""straightened.claims, straightened.papers and straightened.residues: points 93 and 94."""

from straightened.changes import Change, jacobian
from straightened.claims import contrary, is_claim, is_paper_of, is_true, paper_of, words
from straightened.crossings import crossing_line
from straightened.errors import InvalidClaim, TooMany
from straightened.halves import half_stop, is_half, is_half_stop, own_half_steps
from straightened.handed import behind_word, undone_word
from straightened.laid import is_straightener, straightener
from straightened.lines import common, degree, minus, put_in, worth
from straightened.partners import is_partner, partner
from straightened.polys import Poly
from straightened.ratios import Ratio
from straightened.residues import PRIME, is_surely_moved
from straightened.rounds import home, pace, round_of
from straightened.shears import shear
from straightened.steps import own_steps
from straightened.stops import can_be_undone, is_steps, is_stop, stop
from straightened.straights import straight
from straightened.threads import is_straightened, told_thread
from straightened.turned import is_least, least
from straightened.undoing import is_uneven, uneven
from straightened.walked import inner, outer, walked
from straightened.words import told_word, word_at
from tests.helpers import (
    Case, CROSSED_THREADS, Draw, STRAIGHT_THREADS, bent_threads, longest_digits, not_changes, not_lines, not_numbers,
    not_points, not_polys, not_threads, not_words, pair, slow_degree, slow_word_at, strange, undoable,
)

X, Y = Poly.x(), Poly.y()
NUMBER = Poly.number
WIDE = [0] * 18 + [1]
UP, ALONG = ((0, 1), [0, 0, 1]), ((1, 0), [0, 0, 1])
SHARP = ([0, 0, 1], [0, 0, 0, 1])
PAIRS = [
    ("undone", "stuck"), ("steady", "uneven"), ("half", "none"), ("straight", "crossed"), ("once", "again"), ("home", "never"),
]
STEEP = Change(Poly([(10, 0, 1), (0, 10, 1)]), Poly([(9, 2, 1), (2, 9, 1)]))


def linear(a, b, c, d, e=0, f=0):
    return straight([[a, b], [c, d]], (e, f))


def changes():
    draw, found = Draw(2201), undoable(2202, 12)
    found += [draw.change(3) for _ in range(30)] + [draw.straight() for _ in range(4)]
    found += [Change.same(), Change(X, X), Change(NUMBER(1), Poly()), Change(X, X * Y), Change(X + X * X * Y, Y), Change(X * X, Y)]
    for change in undoable(2203, 6):
        if change.degree <= 9:
            found.append(Change(X + X * Y, Y).behind(change))
    return found


def polys():
    draw, found = Draw(2204), [X, Y, Poly(), NUMBER(3), X * X, X + X * X * Y, X * X + Y * Y * Y, X * Y, (Y + X * X) * (Y + X * X)]
    for change in undoable(2205, 10):
        found += [change.first, change.second, change.first * change.first if change.degree <= 9 else change.second]
    return found + [draw.poly(3) for _ in range(30)]


def threads():
    draw = Draw(2206)
    found = STRAIGHT_THREADS + CROSSED_THREADS + [draw.thread(4) for _ in range(30)]
    for threads_led in (STRAIGHT_THREADS, CROSSED_THREADS):
        for seed in range(2210, 2222, 2):
            found += [thread for thread, _ in bent_threads(seed, 4, threads_led, 6)]
    for _ in range(12):
        line = [draw.number(3), draw.number(3), draw.but_nought(3)]
        thread = draw.thread(3)
        found.append((put_in(thread[0], line), put_in(thread[1], line)))
    return found


def straight_cores():
    """Straight changes that come home behind 1, 2, 3, 4, 6 rounds, and some that never do."""
    return [
        (1, linear(1, 0, 0, 1)), (2, linear(-1, 0, 0, -1)), (2, linear(0, 1, 1, 0)), (3, linear(0, -1, 1, -1)),
        (4, linear(0, -1, 1, 0)), (6, linear(0, -1, 1, 1)), (2, linear(-1, 0, 0, 1, 3, 0)), (None, linear(1, 0, 0, 1, 1, 0)),
        (None, linear(2, 0, 0, 1)), (None, linear(1, 1, 0, 1)), (None, linear(-1, 1, 0, -1)), (None, linear(1, 2, 3, 4)),
        (None, linear(2, 0, 0, Ratio(1, 2))), (None, linear(0, 2, 1, 0)),
    ]


def words_with_homes(seed):
    """Tuples of how many rounds home, and a word: cores led by drawn words."""
    draw, found = Draw(seed), []
    cores = [(many, (core, [])) for many, core in straight_cores()]
    cores += [
        (None, (Change.same(), [UP])), (2, (linear(1, 0, 0, -1), [UP])), (2, (linear(-1, 0, 0, -1), [((0, 1), [0, 0, 3])])),
        (None, (linear(1, 0, 0, 1, 0, 2), [((0, 1), [0, 0, 0, 5])])), (None, (linear(-1, 0, 0, 2), [((0, 1), [0, 0, 1])])),
        (None, (linear(0, 1, 1, 0), [UP])), (None, (Change.same(), [UP, ALONG])), (None, (linear(0, 1, 1, 0), [UP, ALONG])),
    ]
    for many, core in cores:
        found.append((many, core))
        for shears in (1, 2):
            by = draw.word(shears, 3)
            try:
                found.append((many, behind_word(by, behind_word(core, undone_word(by)))))
            except TooMany:
                pass
    return found


class WordsTest(Case):
    def test_words(self):
        self.assert_alike(words(), PAIRS)
        words().append(("x", "y"))
        self.assertEqual(words(), PAIRS)


class ClaimTest(Case):
    def test_claims(self):
        for kind, word_pairs in (("change", PAIRS[:1]), ("poly", PAIRS[2:3]), ("thread", PAIRS[4:5])):
            for thing in {"change": changes, "poly": polys, "thread": threads}[kind]():
                for word in word_pairs[0]:
                    self.assert_bool(is_claim((word, thing)), True)
                    self.assert_bool(is_claim(value=(word, thing)), True)
        for _, thing in words_with_homes(2301):
            for word in PAIRS[5]:
                self.assert_bool(is_claim((word, thing)), True)

    def test_where_the_function_refuses(self):
        self.refused_degree(18, jacobian, STEEP)
        for word in PAIRS[1]:
            self.assert_bool(is_claim((word, STEEP)), False)
            self.assert_bool(is_claim((word, Change(X, Y))), True)
        for word in PAIRS[0]:
            self.assert_bool(is_claim((word, STEEP)), True)
        for thread in (([0] * 7 + [1], [0, 1]), ([5], WIDE), (WIDE, WIDE)):
            for word in PAIRS[3]:
                self.assert_bool(is_claim((word, thread)), False)
                self.refused_value(InvalidClaim, (word, thread), is_true, (word, thread))
            for word in PAIRS[4]:
                self.assert_bool(is_claim((word, thread)), True)
        for word in PAIRS[3]:
            self.assert_bool(is_claim((word, ([0] * 6 + [1], [0, 1]))), True)

    def wrongs(self):
        found = strange() + [0, 1, Ratio(1), X, Change.same(), SHARP, [], (), ("half",), ("half", X, 1), ["half", X], "half"]
        things = {"undone": not_changes, "steady": not_changes, "half": not_polys, "straight": not_threads, "home": not_words}
        for first, second in PAIRS:
            for wrong in things.get(first, not_threads)():
                found += [(first, wrong), (second, wrong)]
        kinds = {"undone": Change.same(), "half": X, "straight": SHARP, "home": (Change.same(), [UP])}
        for first in kinds:
            for other in kinds:
                if first != other:
                    found.append((first, kinds[other]))
        found += [(wrong, X) for wrong in strange() + ["Half", "halves", "half ", "", 1, ["half"], ("half",), b"half", None]]
        return found + [(X, "half"), ("half", X, None), ("once", [[0, 1], []]), ("home", [Change.same(), []])]

    def test_values_of_all_kinds(self):
        for wrong in self.wrongs():
            with self.subTest(wrong):
                self.assert_bool(is_claim(wrong), False)
                for function in (is_true, contrary, paper_of):
                    self.refused_value(InvalidClaim, wrong, function, wrong)
                    self.refused_value(InvalidClaim, wrong, function, claim=wrong)
                self.refused_value(InvalidClaim, wrong, is_paper_of, wrong, None)
                self.refused_value(InvalidClaim, wrong, is_paper_of, value=X, claim=wrong)

    def test_contrary(self):
        thread = ([0, 1], (0, Ratio(1, 2)))
        found = contrary(("straight", thread))
        self.assert_alike(found, ("crossed", ([0, 1], (0, Ratio(1, 2)))))
        self.assertIs(found[1].__class__, tuple)
        self.assertIs(found[1][1].__class__, tuple)
        self.assertIsNot(found[1], thread)
        self.assertIsNot(found[1][0], thread[0])
        found[1][0].append(5)
        self.assertEqual(thread, ([0, 1], (0, Ratio(1, 2))))
        word = (Change.same(), (((0, 1), [0, 0, 1]),))
        found = contrary(claim=("never", word))
        self.assertEqual(found, ("home", word))
        found[1][1][0][1].append(1)
        self.assertEqual(word[1][0][1], [0, 0, 1])
        for (first, second), thing in zip(PAIRS, (Change.same(), Change.same(), X, thread, thread, word)):
            self.assertEqual(contrary((first, thing)), (second, thing))
            self.assertEqual(contrary((second, thing)), (first, thing))


class PaperCase(Case):
    def check(self, first, thing, wanted):
        """Just one of both claims is true, and has a paper, which is none of the contrary."""
        second = dict(PAIRS)[first]
        self.assert_bool(is_true((first, thing)), wanted)
        self.assert_bool(is_true(claim=(second, thing)), not wanted)
        yes, no = ((first, thing), (second, thing)) if wanted else ((second, thing), (first, thing))
        paper = paper_of(yes)
        self.assertIsNotNone(paper)
        self.assertIsNone(paper_of(no))
        self.assert_bool(is_paper_of(yes, paper), True)
        self.assert_bool(is_paper_of(value=paper, claim=yes), True)
        self.assert_bool(is_paper_of(no, paper), False)
        self.assertEqual(repr(paper_of(claim=yes)), repr(paper))
        for wrong in strange() + [[], (), [[]], ("grows",), ("moves", []), ("grows", thing), (thing, thing)]:
            if repr(wrong) != repr(paper):
                self.assert_bool(is_paper_of(no, wrong), False)
        return paper


class PapersOfChangesTest(PaperCase):
    def test_undone_and_stuck(self):
        kinds = []
        for change in changes():
            wanted = can_be_undone(change)
            paper = self.check("undone", change, wanted)
            kinds.append(wanted)
            self.assertEqual(paper, own_steps(change) if wanted else (own_steps(change), stop(change)))
            others = [[], own_steps(change)[:-1], own_steps(change) + [(0, 1, 1)], ([], stop(change)), (own_steps(change), "flat")]
            others += [[(1 - place, number, many) for place, number, many in own_steps(change)], ([(0, 1, 1)], "heads")]
            for value in others:
                self.assert_bool(is_paper_of(("undone", change), value), is_steps(change, value))
                self.assert_bool(is_paper_of(("stuck", change), value), is_stop(change, value))
        self.assertEqual({True, False}, set(kinds))

    def test_steady_and_uneven(self):
        kinds = []
        for change in changes():
            if is_claim(("steady", change)):
                wanted = jacobian(change).degree < 1
                paper = self.check("steady", change, wanted)
                kinds.append(wanted)
                number = jacobian(change).amount(0, 0)
                if wanted:
                    self.assert_ratio(paper, number)
                    self.assert_bool(is_paper_of(("steady", change), number.top if number.is_whole else number), True)
                    for wrong in (number + 1, number - Ratio(1, 2), [number], (number,), True, False, str(number)):
                        self.assert_bool(is_paper_of(("steady", change), wrong), False)
                else:
                    self.assertEqual(paper, uneven(change))
                    self.assert_bool(is_paper_of(("steady", change), number), False)
                for value in (((0, 0), (1, 1)), ((0, 0), (0, 0)), [(0, 0), (1, 1)], ((0, 0), (2, 3)), ((1, 1), (1, True))):
                    self.assert_bool(is_paper_of(("uneven", change), value), is_uneven(change, value))
        self.assertEqual({True, False}, set(kinds))
        for wrong in not_numbers():
            self.assert_bool(is_paper_of(("steady", Change.same()), wrong), False)


class PapersOfPolysTest(PaperCase):
    def test_half_and_none(self):
        kinds = []
        for poly in polys():
            wanted = is_half(poly)
            paper = self.check("half", poly, wanted)
            kinds.append(wanted)
            self.assertEqual(paper, partner(poly) if wanted else (own_half_steps(poly), half_stop(poly)))
            for value in (X, Y, poly, poly + X, partner(poly) or X * Y, (partner(poly) or X) + poly):
                self.assert_bool(is_paper_of(("half", poly), value), is_partner(poly, value))
            for value in (([], "number"), ([], "edge"), ([("x", 1, 1)], "degrees"), (own_half_steps(poly), "one letter")):
                self.assert_bool(is_paper_of(("none", poly), value), is_half_stop(poly, value))
        self.assertEqual({True, False}, set(kinds))


class PapersOfThreadsTest(PaperCase):
    def test_straight_and_crossed(self):
        kinds = []
        for thread in threads():
            if max(slow_degree(line) for line in thread) <= 6:
                wanted, line = is_straightened(thread), crossing_line(thread)
                paper = self.check("straight", thread, wanted)
                kinds.append(wanted)
                self.assertEqual(wanted, degree(line) == 0)
                self.assertEqual(paper, straightener(thread) if wanted else line)
                self.assert_bool(is_paper_of(("crossed", thread), tuple(line) + (0, Ratio(0))), not wanted)
                for wrong in (line + [1], line[1:] + [1, 2], [True], [line], straightener(thread)):
                    self.assert_bool(is_paper_of(("crossed", thread), wrong), False)
                for value in (Change.same(), Change(Y, X), line, [1]):
                    self.assert_bool(is_paper_of(("straight", thread), value), is_straightener(thread, value))
        self.assertEqual({True, False}, set(kinds))
        for wrong in not_lines():
            self.assert_bool(is_paper_of(("crossed", ([0, 0, 1], [5])), wrong), False)
        self.assert_bool(is_paper_of(("crossed", ([0, 0, 1], [5])), []), True)

    def test_once_and_again(self):
        kinds = []
        for thread in threads() + [(WIDE, [0] * 17 + [1]), (WIDE, [0] * 9 + [1]), ([4], WIDE), (WIDE, [5, 6])]:
            wanted = walked(thread) == 1
            paper = self.check("once", thread, wanted)
            kinds.append(wanted)
            if wanted:
                self.assertIs(paper.__class__, Ratio)
            else:
                self.assertEqual(paper, (outer(thread), inner(thread)))
            for number in list(range(-4, 5)) + [Ratio(1, 2), Ratio(-2, 3)]:
                less = [minus(line, [worth(line, number)]) for line in thread]
                self.assert_bool(is_paper_of(("once", thread), number), degree(common(less[0], less[1])) == 1)
        self.assertEqual({True, False}, set(kinds))
        for wrong in not_numbers():
            self.assert_bool(is_paper_of(("once", ([0, 1], [])), wrong), False)

    def test_numbers_that_do_not_show_it(self):
        node = ([-1, 0, 1], [0, -1, 0, 1])
        self.assert_bool(is_paper_of(("once", node), 1), False)
        self.assert_bool(is_paper_of(("once", node), -1), False)
        self.assert_bool(is_paper_of(("once", node), 0), True)
        self.assert_bool(is_paper_of(("once", SHARP), 0), False)
        self.assert_ratio(paper_of(("once", SHARP)), 1)

    def test_lines_that_are_put(self):
        late = ([1, 2, 2], [0, 0, 3, 6, 3])
        for value in (
            (([1, 2], [0, 0, 3]), [0, 1, 1]), (([1, 1], [0, 0, Ratio(3, 4), 0]), (0, 2, 2)), (([-1, 2], (3, -6, 3)), [1, 1, 1, 0]),
        ):
            self.assert_bool(is_paper_of(("again", late), value), True)
        for value in (
            (([1, 2], [0, 0, 3]), [0, 1, 2]), (([1, 2], [0, 0, 4]), [0, 1, 1]), (late, [0, 1]), [([1, 2], [0, 0, 3]), [0, 1, 1]],
            (([1, 2], [0, 0, 3]), [0, 1, 1], 1), (([1, 2], [0, 0, 3]),), ([[1, 2], [0, 0, 3]], [0, 1, 1]), ([0, 1, 1], ([1, 2], [])),
            (([1, 2], [0, 0, 3]), [0, True, 1]), (([1, 2], [0, 0, True]), [0, 1, 1]), (([1], [3]), [0, 1, 1]),
            ((WIDE, WIDE), [0] * 30 + [1]), ((WIDE, [1]), [0, 0, 1]), (([1, 2], [0, 0, 3]), [5]), (([1, 2], [0, 0, 3]), []),
        ):
            with self.subTest(value):
                self.assert_bool(is_paper_of(("again", late), value), False)
        self.assert_bool(is_paper_of(("again", (WIDE, [3])), (([0, 0, 0, 1], [3]), [0] * 6 + [1])), True)
        self.assert_bool(is_paper_of(("again", (WIDE, [3])), (([0, 0, 0, 1], [2]), [0] * 6 + [1])), False)


class PapersOfWordsTest(PaperCase):
    def test_home_and_never(self):
        for many, word in words_with_homes(2302):
            paper = self.check("home", word, many is not None)
            self.assertEqual(home(word), many)
            for value in range(-2, 14):
                wanted = value in (1, 2, 3, 4, 6) and many is not None and value % many == 0
                self.assert_bool(is_paper_of(("home", word), value), wanted)
                if value in (1, 2, 3, 4, 6) and pace(word) == 1 and len(word[1]) < 4:
                    self.assertEqual(wanted, round_of(word, value) == (Change.same(), []))
            for wrong in not_numbers() + [Ratio(1), Ratio(2), Ratio(12), [2], (2,)]:
                self.assert_bool(is_paper_of(("home", word), wrong), False)
            if many is not None:
                self.assert_integer(paper, many)
            elif pace(word) > 1:
                self.check_grows(word, paper)
            else:
                self.check_moves(word, paper)

    def check_grows(self, word, paper):
        self.assertEqual(paper[0], "grows")
        self.assertEqual(paper, ("grows", least(word)[1]))
        draw = Draw(2303)
        for by in (least(word)[1], (Change.same(), []), (linear(1, 2, 3, 4), []), (Change.same(), [UP]), draw.word(1), draw.word(2)):
            led = behind_word(by, behind_word(word, undone_word(by)))
            wanted = is_least(led) and pace(led) > 1
            self.assert_bool(is_paper_of(("never", word), ("grows", by)), wanted)
            self.assert_bool(is_paper_of(("never", word), ["grows", by]), False)
        for wrong in not_words():
            self.assert_bool(is_paper_of(("never", word), ("grows", wrong)), False)
        points = [(1, 2), (3, 4), (5, 7), (1, 1), (2, 9)]
        self.assert_bool(is_paper_of(("never", word), ("moves", points)), False)

    def check_moves(self, word, paper):
        self.assertEqual(paper[0], "moves")
        self.assertIs(paper[1].__class__, list)
        self.assertEqual(len(paper[1]), 5)
        for many, point in zip((1, 2, 3, 4, 6), paper[1]):
            self.assert_pair(point, point)
            self.assertTrue(self.moves(word, many, point))
        for points in ([(0, 0)] * 5, [(1, 2)] * 5, [(0, 1), (1, 0), (Ratio(1, 2), 0), (3, 3), (0, 0)], tuple(paper[1])):
            wanted = all([self.moves(word, many, point) for many, point in zip((1, 2, 3, 4, 6), points)])
            self.assert_bool(is_paper_of(("never", word), ("moves", points)), wanted)
        good = paper[1]
        for wrong in not_points():
            self.assert_bool(is_paper_of(("never", word), ("moves", good[:4] + [wrong])), False)
        for value in (good[:4], good + good[:1], good, [], None, dict(enumerate(good))):
            self.assert_bool(is_paper_of(("never", word), ("moves", value)), value == good)
        for value in (["moves", good], ("moves",), ("move", good), ("moves", good, 1), (b"moves", good), (None, good), "moves"):
            self.assert_bool(is_paper_of(("never", word), value), False)
        self.assert_bool(is_paper_of(("never", word), ("grows", (Change.same(), []))), False)
        self.assert_bool(is_paper_of(("never", word), ("grows", least(word)[1])), False)

    def moves(self, word, many, point):
        end = pair(point)
        for _ in range(many):
            end = slow_word_at(word, end)
        return end != pair(point)

    def test_points_that_stay(self):
        """A shear leaves the points of some levels where they are."""
        word = (Change.same(), [((0, 1), [0, 0, -1, 1])])
        good = [(2, 0)] * 5
        self.assert_bool(is_paper_of(("never", word), ("moves", good)), True)
        for at in range(5):
            for wrong in ((0, 5), (1, 7), (Ratio(1), Ratio(-2, 3))):
                self.assert_bool(is_paper_of(("never", word), ("moves", good[:at] + [wrong] + good[at + 1:])), False)
        # Turned by halves: its second, fourth and sixth rounds leave the points of the one line, the others do not.
        half_turn = (linear(-1, 0, 0, -1), [((0, 1), [0, 0, 0, 1])])
        for at, many in enumerate((1, 2, 3, 4, 6)):
            points = [(1, 1)] * at + [(0, 1)] + [(1, 1)] * (4 - at)
            self.assertEqual(self.moves(half_turn, many, (0, 1)), many in (1, 3))
            self.assert_bool(is_paper_of(("never", half_turn), ("moves", points)), many in (1, 3))

    def test_words_with_many_shears(self):
        """Numbers along them would grow beyond all bounds; answers stay small all the same."""
        draw = Draw(2304)
        directions = [(0, 1) if at % 2 else (1, 0) for at in range(11)]
        by = Change.same(), [(direction, [0] * 6 + [draw.but_nought(3), 5]) for direction in directions]
        for many, core in ((None, linear(2, 0, 0, 3)), (2, linear(-1, 0, 0, 1)), (None, linear(1, 0, 0, Ratio(1, 2)))):
            word = behind_word(undone_word(by), behind_word((core, []), by))
            self.assertGreater(len(word[1]), 18)
            paper = self.check("home", word, many is not None)
            self.assertEqual(home(word), many)
            if many is None:
                self.assertEqual(paper[0], "moves")
                self.assertLessEqual(longest_digits(paper[1]), 2)
                self.assert_bool(is_paper_of(("never", word), ("moves", [(1, 2)] * 5)), True)
                # Shears by lines without the powers 0 and 1 leave this point where it is.
                self.assert_bool(is_paper_of(("never", word), ("moves", [(0, 0)] * 5)), False)
                self.assert_bool(is_paper_of(("never", word), ("moves", [(1, 2)] * 4 + [(0, 0)])), False)

    def test_grows_by_long_words(self):
        """A word that leads there, though told as a word what stands between would be too long, or too great."""
        draw = Draw(2305)
        core = (linear(2, 1, 1, 1, 5, 7), [((0, 1), [0, 0, 3, 1]), ((1, 2), [0, 0, 0, 2])])
        self.assert_bool(is_least(core), True)
        by = draw.word(20, 4)
        self.assert_bool(is_paper_of(("never", core), ("grows", by)), False)
        self.assert_bool(is_paper_of(("never", core), ("grows", (draw.straight(), []))), True)
        self.assert_bool(is_paper_of(("never", core), ("grows", core)), True)
        self.assert_bool(is_paper_of(("never", core), ("grows", undone_word(core))), True)

    def test_residues(self):
        draw = Draw(2306)
        for _ in range(60):
            word, point, many = draw.word(draw.below(4), 3), draw.point(), 1 + draw.below(2)
            told = tuple([Ratio(1) * number for number in point])
            found = is_surely_moved(told_word(word), many, told)
            self.assert_bool(found, self.moves(word, many, point))
        # Points that stay, and others beside them, of words that are led to straight changes.
        for many, core in ((1, linear(2, 0, 0, 3)), (2, linear(0, 1, 1, 0)), (3, linear(1, 1, 0, 1)), (2, linear(-1, 0, 2, Ratio(1, 3)))):
            for shears in (1, 2, 3):
                by = draw.word(shears, 3)
                word = behind_word(undone_word(by), behind_word((core, []), by))
                point = word_at(undone_word(by), (0, 0))
                self.assert_bool(is_surely_moved(word, many, point), False)
                for beside in ((point[0] + 1, point[1]), (point[0], point[1] - Ratio(1, 2))):
                    self.assert_bool(is_surely_moved(word, many, beside), self.moves(word, many, beside))
        # What is a multiple of the prime below the stroke leaves no rest.
        numbers = [0, 0, Ratio(1, PRIME), 1, Ratio(-1 - PRIME, PRIME)]
        word = told_word((Change.same(), [((0, 1), numbers)]))
        self.assert_bool(is_surely_moved(word, 1, (Ratio(1), Ratio(5))), False)
        self.assert_bool(is_paper_of(("never", word), ("moves", [(1, 5)] * 5)), False)
        word = told_word((Change.same(), [((0, 1), [0, 0, Ratio(1, PRIME)])]))
        self.assert_bool(is_surely_moved(word, 1, (Ratio(1), Ratio(1))), False)
        self.assert_bool(is_paper_of(("never", word), ("moves", [(1, 1)] * 5)), True)
        word = told_word((Change.same(), [((0, 1), [0, 0, PRIME])]))
        self.assert_bool(is_surely_moved(word, 1, (Ratio(1), Ratio(1))), False)
        self.assert_bool(is_paper_of(("never", word), ("moves", [(1, 1)] * 5)), True)
        self.assert_bool(is_paper_of(("never", word), ("moves", [(0, 1)] * 5)), False)


class ExamplesTest(Case):
    def test_examples(self):
        sharp = ("straight", SHARP)
        self.assert_bool(is_true(sharp), False)
        self.assertEqual(contrary(sharp), ("crossed", SHARP))
        self.assert_bool(is_paper_of(("crossed", SHARP), [0, 0, 1]), True)
        self.assert_bool(is_paper_of(("once", SHARP), 1), True)
        self.assert_bool(is_paper_of(("half", X), Y), True)

    def test_told_facts(self):
        self.assert_bool(is_true(("never", (Change.same(), [UP]))), True)
        self.assert_bool(is_true(("home", (linear(1, 0, 0, -1), [UP]))), True)
        self.assertEqual(told_thread(paper_of(("again", ([0, 0, 1], [0, 0, 0, 0, 1])))[0]), told_thread(([0, 1], [0, 0, 1])))
        self.assert_bool(is_true(("undone", shear((0, 1), WIDE))), True)

    def test_nothing_is_changed(self):
        thread, word = ([0, 0, 1], [0, 0, 0, 0, 1]), (Change.same(), [UP])
        for claim in (("again", thread), ("crossed", thread), ("never", word)):
            kept = repr(claim)
            paper = paper_of(claim)
            is_paper_of(claim, paper)
            is_true(claim)
            contrary(claim)
            self.assertEqual(repr(claim), kept)
