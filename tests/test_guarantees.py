"""The guarantees of point 4 and the facts of point 94, over drawn things and through all files."""

from straightened.changes import Change
from straightened.claims import contrary, is_paper_of, is_true, paper_of
from straightened.crossings import crossing_line
from straightened.equations import equation, trace
from straightened.errors import TooMany
from straightened.forms import read
from straightened.halves import half_stop, is_half
from straightened.handed import behind_word, undone_word
from straightened.laid import straightener
from straightened.partners import is_partner, partner
from straightened.polys import Poly
from straightened.rounds import home, pace, round_degrees, round_of
from straightened.steps import own_steps
from straightened.stops import can_be_undone, is_steps, is_stop, stop
from straightened.texts import written
from straightened.threads import changed_thread, is_straightened
from straightened.turned import least
from straightened.undoing import undone
from straightened.walked import walked
from straightened.words import degree_of, same_word, word_change, word_of
from tests.helpers import CROSSED_THREADS, STRAIGHT_THREADS, Case, Draw, bent_threads, slow_degree, undoable

X, Y = Poly.x(), Poly.y()
NOTHING = (Change.same(), [])


def drawn_changes(seed):
    draw = Draw(seed)
    found = undoable(seed + 1, 10) + [draw.change(3) for _ in range(20)]
    return found + [Change(X + X * Y, Y).behind(change) for change in undoable(seed + 2, 5) if change.degree <= 9]


def drawn_threads(seed):
    draw = Draw(seed)
    found = STRAIGHT_THREADS + CROSSED_THREADS + [draw.thread(4) for _ in range(40)]
    for threads in (STRAIGHT_THREADS, CROSSED_THREADS):
        for more in range(0, 16, 2):
            found += [thread for thread, _ in bent_threads(seed + more, 3, threads, 6)]
    return found


def greater_degree(thread):
    return max([slow_degree(line) for line in thread])


class GuaranteesTest(Case):
    def test_steps_or_a_stop(self):
        for change in drawn_changes(3001):
            steps, kind = own_steps(change), stop(change)
            self.assert_bool(can_be_undone(change), kind is None)
            self.assert_bool(is_steps(change, steps), kind is None)
            self.assert_bool(is_stop(change, (steps, kind)), kind is not None)
            if kind is None:
                self.assertEqual(undone(undone(change)), change)
                self.assertEqual(undone(change).degree, change.degree)

    def test_one_word(self):
        changes = [change for change in undoable(3011, 12)]
        for one in changes:
            for two in changes[:4] + [Change(one.second, one.first), one]:
                self.assertEqual(same_word(word_of(one), word_of(two)), one == two)
            self.assertEqual(word_change(word_of(one)), one)
            self.assertEqual(degree_of(word_of(one)), one.degree)
            self.assertEqual(undone_word(word_of(one)), word_of(undone(one)))
            self.assertEqual(behind_word(undone_word(word_of(one)), word_of(one)), NOTHING)
            self.assertEqual(read(written(word_of(one))), word_of(one))

    def test_rounds(self):
        draw = Draw(3021)
        for _ in range(30):
            word = draw.word(draw.below(4), 3)
            core, by = least(word)
            fast, many = pace(word), home(word)
            self.assertEqual(fast, pace(core))
            if fast > 1:
                degrees = round_degrees(core, 3)
                self.assertEqual(degrees, [fast, fast * fast, fast * fast * fast])
                self.assertIsNone(many)
            most = degree_of(by) * degree_of(by)
            for own, of_core in zip(round_degrees(word, 2), round_degrees(core, 2)):
                self.assertLessEqual(own, most * of_core)
            for rounds in (1, 2, 3):
                nothing = round_of(word, rounds) == NOTHING
                self.assertEqual(nothing, many is not None and rounds % many == 0)

    def test_halves(self):
        for change in drawn_changes(3031):
            for poly in (change.first, change.second):
                other = partner(poly)
                self.assert_bool(is_half(poly), other is not None)
                self.assertEqual(half_stop(poly) is None, other is not None)
                if other is not None:
                    self.assert_bool(is_partner(poly, other), True)
                    self.assert_bool(can_be_undone(Change(poly, other)), True)
                elif poly.degree <= 4:
                    for value in (X, Y, X + Y, Y + X * X, change.second):
                        self.assert_bool(can_be_undone(Change(poly, value)), False)

    def test_threads(self):
        for thread in drawn_threads(3041):
            found = straightener(thread)
            self.assert_bool(is_straightened(thread), found is not None)
            if greater_degree(thread) <= 6:
                self.assertEqual(slow_degree(crossing_line(thread)) == 0, found is not None)
            if found is not None:
                self.assert_thread(changed_thread(undone(found), ([0, 1], [])), thread)

    def test_traces(self):
        for thread in drawn_threads(3051):
            try:
                found = trace(thread)
            except TooMany:
                continue
            self.assertEqual(is_straightened(thread), walked(thread) == 1 and is_half(found))
            if greater_degree(thread) <= 4:
                self.assertEqual(is_straightened(thread), is_half(equation(thread)))

    def test_just_one_of_a_claim_and_its_contrary(self):
        draw = Draw(3061)
        claims = [("undone", change) for change in drawn_changes(3062)]
        claims += [("steady", change) for change in drawn_changes(3063) if change.degree <= 9]
        claims += [("half", change.first) for change in drawn_changes(3064)]
        claims += [(word, thread) for thread in drawn_threads(3065) for word in ("straight", "once") if greater_degree(thread) <= 6]
        claims += [("home", draw.word(draw.below(4), 3)) for _ in range(20)]
        for claim in claims:
            other = contrary(claim)
            self.assertEqual(contrary(other), claim)
            self.assert_bool(is_true(other), not is_true(claim))
            for one, two in ((claim, other), (other, claim)):
                paper = paper_of(one)
                self.assertEqual(paper is not None, is_true(one))
                if paper is not None:
                    self.assert_bool(is_paper_of(one, paper), True)
                    self.assert_bool(is_paper_of(two, paper), False)
