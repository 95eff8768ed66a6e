"""straightened.handed: points 43, 44, 46 and 47."""

from straightened.changes import Change
from straightened.errors import InvalidChange, InvalidItems, InvalidShear, InvalidWord, NotStraight
from straightened.handed import behind_word, handed, joined, undone_word
from straightened.lines import plus
from straightened.polys import Poly
from straightened.ratios import Ratio
from straightened.shears import is_shear, led_direction, shear
from straightened.straights import is_straight, straight, undone_straight
from straightened.undoing import undone
from straightened.words import degree_of, is_word, same_word, word_at, word_change, word_of
from tests.helpers import (
    Case, Draw, flat_and_bent, fractions, items_of, not_changes, not_lists, not_shears, not_words, pair, slow_row_at,
)

X, Y = Poly.x(), Poly.y()
NUMBER = Poly.number
SAME = Change.same()
UP, ALONG = ((0, 1), [0, 0, 1]), ((1, 0), [0, 0, 1])
UP_BACK, ALONG_BACK = ((0, 1), [0, 0, -1]), ((1, 0), [0, 0, -1])
MOVED = Change(X + NUMBER(3), Y - NUMBER(Ratio(1, 2)))


def contrary(item):
    if isinstance(item, Change):
        return undone_straight(item)
    return item[0], [-number for number in item[1]]


def drawn_rows(seed, many, longest):
    draw = Draw(seed)
    return [draw.row(draw.below(longest + 1)) for _ in range(many)]


class HandedTest(Case):
    def check(self, change, item):
        front, moved = handed(change, item)
        self.assertIs(front.__class__, Change)
        self.assert_shear(moved, moved[0], moved[1])
        self.assert_bool(is_straight(front), True)
        self.assert_bool(is_shear(moved), True)
        self.assertEqual(len(moved[1]), len(fractions(item[1])))
        self.assert_pair(led_direction(change, moved[0]), item[0])
        return front, moved

    def test_as_changes(self):
        draw = Draw(501)
        for _ in range(60):
            change, item = straight(draw.rows(), draw.point()), draw.shear(5)
            front, moved = self.check(change, item)
            self.assertEqual(shear(item[0], item[1]).behind(change), front.behind(shear(moved[0], moved[1])))
            self.assertEqual(handed(shear=item, change=change), (front, moved))

    def test_at_points_and_of_degree_eighteen(self):
        draw = Draw(502)
        for _ in range(20):
            change = straight(draw.rows(), draw.point())
            item = (draw.direction(), [0, 0] + [draw.number(2) for _ in range(16)] + [draw.but_nought(2)])
            front, moved = self.check(change, item)
            point = draw.point()
            wanted = slow_row_at([item, change], pair(point))
            self.assertEqual(slow_row_at([front, moved], pair(point)), wanted)

    def test_examples(self):
        turn = Change(Y, X)
        found = handed(turn, UP)
        self.assertEqual(found[0], turn)
        self.assert_shear(found[1], (1, 0), [0, 0, 1])
        # (x + 3, y) first, then x x is added to y: x x + 6 x + 9.
        found = handed(Change(X + NUMBER(3), Y), UP)
        self.assertEqual(found[0], Change(X + NUMBER(3), Y + X.scaled(6) + NUMBER(9)))
        self.assert_shear(found[1], (0, 1), [0, 0, 1])
        found = handed(Change(X.scaled(2), Y.scaled(3)), ((0, 1), (0, 0, 0, 1)))
        self.assert_shear(found[1], (0, 1), [0, 0, 0, Ratio(8, 3)])
        found = handed(Change(X.scaled(2), Y.scaled(3)), ((1, 1), [0, 0, 1]))
        self.assert_shear(found[1], (1, Ratio(2, 3)), [0, 0, Ratio(9, 2)])

    def test_nothing_is_moved_by_the_same_change(self):
        draw = Draw(503)
        for _ in range(10):
            item = draw.shear(6)
            found = handed(SAME, item)
            self.assertEqual(found[0], SAME)
            self.assert_shear(found[1], item[0], item[1])

    def test_wrong_values(self):
        for wrong in not_changes():
            with self.subTest(wrong):
                self.refused_value(InvalidChange, wrong, handed, wrong, UP)
                self.refused_value(InvalidChange, wrong, handed, shear=None, change=wrong)
        for wrong in not_shears():
            with self.subTest(wrong):
                self.refused_value(InvalidShear, wrong, handed, SAME, wrong)
                self.refused_value(InvalidShear, wrong, handed, shear=wrong, change=Change(X, X))
        for change in flat_and_bent():
            self.refused(NotStraight, {}, handed, change, UP)
            self.refused(NotStraight, {}, handed, shear=ALONG, change=change)


class JoinedTest(Case):
    def test_points(self):
        draw = Draw(511)
        for items in drawn_rows(512, 60, 6):
            found, point = joined(items), draw.point()
            self.assert_word(found, found)
            self.assert_bool(is_word(found), True)
            self.assert_pair(word_at(found, point), slow_row_at(items, point))
            self.assert_word(joined(items=tuple(items)), found)

    def test_as_changes(self):
        checked = 0
        for items in drawn_rows(513, 60, 4):
            change, degree = SAME, 1
            for item in items[::-1]:
                degree = degree if isinstance(item, Change) else degree * (len(item[1]) - 1)
                if degree <= 18:
                    change = (item if isinstance(item, Change) else shear(item[0], item[1])).behind(change)
            if degree <= 18:
                checked += 1
                self.assert_word(word_of(change), joined(items))
                self.assertEqual(word_change(joined(items)), change)
        self.assertGreater(checked, 30)

    def test_in_either_bracketing(self):
        draw = Draw(514)
        for items in drawn_rows(515, 50, 8):
            at = draw.below(len(items) + 1)
            whole = joined(items)
            self.assert_word(behind_word(joined(items[:at]), joined(items[at:])), whole)
            self.assert_word(joined(items[:at] + items_of(joined(items[at:]))), whole)
            self.assert_word(joined(items_of(joined(items[:at])) + items[at:]), whole)
            self.assert_bool(same_word(whole, joined(items_of(whole))), True)

    def test_rows_with_their_contraries_are_nothing(self):
        for items in drawn_rows(516, 40, 8):
            back = [contrary(item) for item in items[::-1]]
            self.assert_word(joined(items + back), (SAME, []))
            self.assert_word(joined(back + items), (SAME, []))
            self.assert_word(joined([UP] + items + back + [ALONG]), (SAME, [UP, ALONG]))

    def test_the_same_word_from_other_rows(self):
        for items in drawn_rows(517, 40, 6):
            more = []
            for item in items:
                if isinstance(item, Change):
                    more += [MOVED, undone_straight(MOVED).behind(item)]
                else:
                    half = [Ratio(1, 3) * number for number in item[1]]
                    more += [(item[0], half), (item[0], [number - one for number, one in zip(item[1], half)])]
            self.assert_word(joined(more), joined(items))

    def test_shears_that_join(self):
        cube = ((0, 1), [0, 0, 5, 2])
        for items, wanted in (
            ([], (SAME, [])), ([UP], (SAME, [UP])), ([MOVED], (MOVED, [])), ([MOVED, MOVED], (MOVED.behind(MOVED), [])),
            ([UP, UP], (SAME, [((0, 1), [0, 0, 2])])), ([UP, UP_BACK], (SAME, [])), ([UP_BACK, UP], (SAME, [])),
            ([cube, ((0, 1), [0, 0, 0, -2])], (SAME, [((0, 1), [0, 0, 5])])), ([cube, UP_BACK], (SAME, [((0, 1), [0, 0, 4, 2])])),
            ([ALONG, UP, UP_BACK, ALONG], (SAME, [((1, 0), [0, 0, 2])])), ([ALONG, UP, UP_BACK, ALONG_BACK], (SAME, [])),
            ([UP, ALONG, UP], (SAME, [UP, ALONG, UP])), ([UP, Change(Y, X), ALONG], (Change(Y, X), [((1, 0), [0, 0, 2])])),
            ([UP, Change(Y, X), ALONG_BACK], (Change(Y, X), [])),
            ([((Ratio(1), 2), [0, 0, 1]), ((1, Ratio(2)), (0, 0, 0, 1, 0))], (SAME, [((1, 2), [0, 0, 1, 1])])),
        ):
            self.assert_word(joined(items), wanted)
            self.assert_word(joined(items=tuple(items)), wanted)

    def test_neighbours_that_meet_behind_those_that_go_out(self):
        # What stands between the first one and the last one is nothing done but for a number that is added.
        between = [ALONG, UP, MOVED, undone_straight(MOVED), UP_BACK, ALONG_BACK, Change(X, Y + NUMBER(2))]
        found = joined([UP] + between + [UP])
        self.assert_word(found, (Change(X, Y + NUMBER(2)), [((0, 1), [0, 0, 2])]))
        found = joined([ALONG] + between + [ALONG_BACK])
        # (y + 2) (y + 2) - y y = 4 y + 4.
        self.assert_word(found, (Change(X + Y.scaled(4) + NUMBER(4), Y + NUMBER(2)), []))

    def test_twenty_four_shears_and_one_more(self):
        self.assert_word(joined([UP, ALONG] * 12), (SAME, [UP, ALONG] * 12))
        self.refused_shears(joined, [UP, ALONG] * 12 + [UP])
        self.refused_shears(joined, items=tuple([UP, ALONG] * 30))
        self.assert_word(joined([UP, ALONG] * 13 + [ALONG_BACK, UP_BACK]), (SAME, [UP, ALONG] * 12))
        self.assert_word(joined([UP, ALONG] * 12 + [ALONG]), (SAME, [UP, ALONG] * 11 + [UP, ((1, 0), [0, 0, 2])]))
        # So many more that it takes no time to tell, however large the numbers of its shears would be.
        self.refused_shears(joined, ([((0, 1), [0] * 18 + [1]), MOVED, ((1, 1), [0] * 18 + [1]), MOVED] * 15))

    def test_sixty_items_and_one_more(self):
        self.assert_word(joined([UP] * 60), (SAME, [((0, 1), [0, 0, 60])]))
        self.assert_word(joined([UP, UP_BACK] * 30), (SAME, []))
        self.assert_word(joined([Change(Y, X)] * 60), (SAME, []))
        self.refused(InvalidItems, {"position": None}, joined, [UP] * 61)
        self.refused(InvalidItems, {"position": None}, joined, tuple([SAME] * 61))
        self.refused(InvalidItems, {"position": None}, joined, [None] * 61)

    def test_wrong_items(self):
        for wrong in not_lists():
            with self.subTest(wrong):
                self.refused(InvalidItems, {"position": None}, joined, wrong)
                self.refused(InvalidItems, {"position": None}, joined, items=wrong)
        bent = [change for change in flat_and_bent()]
        for wrong in [one for one in not_shears() + bent if not (isinstance(one, Change) and is_straight(one))]:
            with self.subTest(wrong):
                self.refused(InvalidItems, {"position": 0}, joined, [wrong])
                self.refused(InvalidItems, {"position": 2}, joined, (UP, SAME, wrong, None))
                self.refused(InvalidItems, {"position": 30}, joined, items=[UP, ALONG] * 15 + [wrong, 1])


class WordsBehindTest(Case):
    def test_behind(self):
        draw = Draw(521)
        for _ in range(40):
            one, two = draw.word(draw.below(4), 3), draw.word(draw.below(4), 3)
            found, point = behind_word(one, two), draw.point()
            self.assert_word(found, found)
            self.assert_pair(word_at(found, point), word_at(one, word_at(two, point)))
            self.assert_word(behind_word(other=two, word=one), found)
            self.assertLessEqual(len(found[1]), len(one[1]) + len(two[1]))
            if degree_of(one) * degree_of(two) <= 18:
                self.assertEqual(word_change(found), word_change(one).behind(word_change(two)))

    def test_behind_the_contrary_nothing_is_left(self):
        draw = Draw(522)
        for _ in range(40):
            word = draw.word(draw.below(6), 3)
            back = undone_word(word)
            self.assert_word(back, back)
            self.assertEqual(degree_of(back), degree_of(word))
            self.assert_word(behind_word(word, back), (SAME, []))
            self.assert_word(behind_word(back, word), (SAME, []))
            self.assert_word(undone_word(word=back), word)
            if degree_of(word) <= 18:
                self.assertEqual(word_change(back), undone(word_change(word)))

    def test_whatever_stands_in_brackets(self):
        draw = Draw(523)
        for _ in range(25):
            one, two, three = [draw.word(draw.below(3), 3) for _ in range(3)]
            self.assert_word(behind_word(behind_word(one, two), three), behind_word(one, behind_word(two, three)))
            together = behind_word(undone_word(two), undone_word(one))
            self.assert_word(undone_word(behind_word(one, two)), together)

    def test_those_that_meet(self):
        one, two = (SAME, [ALONG, UP]), (SAME, [UP, ALONG])
        self.assert_word(behind_word(one, two), (SAME, [ALONG, ((0, 1), [0, 0, 2]), ALONG]))
        self.assert_word(behind_word(one, (SAME, [UP_BACK, ALONG])), (SAME, [((1, 0), [0, 0, 2])]))
        self.assert_word(behind_word((Change(Y, X), [UP]), (Change(Y, X), [UP])), (SAME, [ALONG, UP]))
        self.assert_word(undone_word((Change(Y, X), [UP])), (Change(Y, X), [ALONG_BACK]))
        self.assert_word(undone_word(one), (SAME, [UP_BACK, ALONG_BACK]))
        self.assertEqual(plus([0, 0, 1], [0, 0, 1]), [Ratio(0), Ratio(0), Ratio(2)])

    def test_twenty_four_shears_and_one_more(self):
        long, short = (SAME, [UP, ALONG] * 12), (SAME, [UP])
        self.refused_shears(behind_word, long, short)
        self.refused_shears(behind_word, other=long, word=(SAME, [ALONG]))
        self.assert_word(behind_word(short, long), (SAME, [((0, 1), [0, 0, 2])] + long[1][1:]))
        self.assert_word(behind_word(long, undone_word(long)), (SAME, []))
        self.assert_word(behind_word(long, (SAME, [ALONG_BACK])), (SAME, long[1][:-1]))
        # The word that comes has few shears, though both have many.
        back = (SAME, [ALONG_BACK, UP_BACK] * 11 + [((1, 5), [0, 0, 1])])
        self.assert_word(behind_word(long, back), (SAME, [UP, ALONG, ((1, 5), [0, 0, 1])]))
        # However large the numbers of its shears would be.
        wide = (MOVED, [((0, 1), [0] * 18 + [1]), ((1, 1), [0] * 18 + [1])] * 12)
        self.refused_shears(behind_word, wide, wide)
        self.refused_shears(behind_word, (MOVED, [((1, 5), [0] * 17 + [2])]), wide)

    def test_wrong_words(self):
        for wrong in not_words():
            with self.subTest(wrong):
                self.refused_value(InvalidWord, wrong, undone_word, wrong)
                self.refused_value(InvalidWord, wrong, undone_word, word=wrong)
                self.refused_value(InvalidWord, wrong, behind_word, wrong, (SAME, []))
                self.refused_value(InvalidWord, wrong, behind_word, other=None, word=wrong)
                self.refused_value(InvalidWord, wrong, behind_word, (SAME, [UP, ALONG] * 12), wrong)
                self.refused_value(InvalidWord, wrong, behind_word, other=wrong, word=(SAME, [UP]))

    def test_told_lists_are_new_and_nothing_is_changed(self):
        word, items = (SAME, [UP, ALONG]), [UP, SAME, ALONG]
        for found in (joined(items), behind_word(word, (SAME, [])), undone_word(undone_word(word))):
            found[1][0][1].append(5)
            found[1].append(UP)
        self.assertEqual(repr(items), repr([((0, 1), [0, 0, 1]), SAME, ((1, 0), [0, 0, 1])]))
        self.assert_word(joined(items), word)
        handed(SAME, UP)[1][1].append(5)
        self.assertEqual(UP, ((0, 1), [0, 0, 1]))
