"""straightened.rounds: points 51 and 54 to 57."""

from straightened.changes import Change
from straightened.errors import InvalidMany, InvalidWord
from straightened.handed import behind_word, undone_word
from straightened.polys import Poly
from straightened.ratios import Ratio
from straightened.rounds import home, is_led, is_unlike, pace, round_degrees, round_of, row
from straightened.shears import keeps
from straightened.straights import determinant, straight
from straightened.turned import is_least, least, turned
from straightened.words import degree_of, same_word, word_at, word_change, word_of
from tests.helpers import Case, Draw, fractions, not_counts, not_words, pair, slow_word_at

X, Y = Poly.x(), Poly.y()
NUMBER = Poly.number
SAME = Change.same()
SWAP = Change(Y, X)
NOTHING = (SAME, [])
UP, ALONG = ((0, 1), [0, 0, 1]), ((1, 0), [0, 0, 1])
UP_BACK, ALONG_BACK = ((0, 1), [0, 0, -1]), ((1, 0), [0, 0, -1])
MOVED = Change(X + NUMBER(3), Y - NUMBER(Ratio(1, 2)))
HOMES = {
    1: [[1, 0], [0, 1]], 2: [[-1, 0], [0, -1]], 3: [[0, -1], [1, -1]], 4: [[0, -1], [1, 0]], 6: [[1, -1], [1, 0]],
}


def degrees(word):
    return [len(fractions(line)) - 1 for _, line in word[1]]


def product(numbers):
    found = 1
    for number in numbers:
        found = found * number
    return found


def led_by(word, by):
    return behind_word(behind_word(by, word), undone_word(by))


def drawn_by(draw, shears=2, most=3):
    """A word that leads others: of whole numbers, so that theirs stay short."""
    found = draw.word(1 + draw.below(shears), most)
    return straight([[1, draw.whole(2)], [0, 1]], (draw.whole(2), draw.whole(2))), found[1]


def drawn_words(seed, many, shears=2, most=3):
    """Words, a third of them without shears or with one that is kept, a third led by others, so that they are not least."""
    draw, found = Draw(seed), []
    for at in range(many):
        if at % 3 == 0:
            word = straight([[draw.but_nought(2), 0], [0, draw.but_nought(2)]], draw.point()), [UP][:draw.below(2)]
        else:
            word = draw.word(draw.below(shears + 1), most)
        if at % 3 == 2:
            word = led_by(word, (SAME, draw.word(1, most)[1]))
        found.append(word)
    return found


class RoundsTest(Case):
    def test_words_behind_one_another(self):
        for word in drawn_words(701, 30):
            wanted = NOTHING
            for many in range(4):
                found = round_of(word, many)
                self.assert_word(found, wanted)
                self.assert_word(round_of(many=many, word=word), wanted)
                wanted = behind_word(word, wanted)

    def test_points_led_again_and_again(self):
        draw = Draw(702)
        for word in drawn_words(703, 30):
            point = pair((draw.whole(2), draw.whole(2)))
            for many in range(4):
                self.assertEqual(slow_word_at(round_of(word, many), pair(point)), self.led(word, point, many))

    def led(self, word, point, many):
        for _ in range(many):
            point = slow_word_at(word, point)
        return point

    def test_none_and_one_and_twelve(self):
        word = (Change(Y, X + NUMBER(1)), [((0, 1), (0, 0, 1, 0))])
        self.assert_word(round_of(word, 0), NOTHING)
        self.assert_word(round_of(word, 1), word)
        self.assert_word(round_of((MOVED, []), 12), (Change(X + NUMBER(36), Y - NUMBER(6)), []))
        self.assert_word(round_of((SAME, [UP]), 12), (SAME, [((0, 1), [0, 0, 12])]))
        found = round_of((SWAP, [UP]), 12)
        self.assert_word(found, (SAME, [ALONG, UP] * 6))
        self.assertEqual(len(round_of(word, 12)[1]), 12)

    def test_rounds_of_what_is_led(self):
        word = led_by((SWAP, [UP]), (SAME, [((1, 3), [0, 0, 1])]))
        self.assertEqual(len(word[1]), 3)
        self.assertEqual(len(round_of(word, 12)[1]), 14)
        self.assert_word(round_of(word, 5), led_by(round_of((SWAP, [UP]), 5), (SAME, [((1, 3), [0, 0, 1])])))

    def test_twenty_four_shears_and_one_more(self):
        long = (SAME, [UP, ALONG] * 12)
        self.assert_word(round_of(long, 1), long)
        self.assertEqual(len(round_of((SAME, [UP, ALONG]), 12)[1]), 24)
        self.refused_shears(round_of, long, 2)
        three = (SAME, [UP, ALONG, ((1, 1), [0, 0, 1])])
        self.assertEqual(len(round_of(three, 8)[1]), 24)
        self.refused_shears(round_of, three, 9)
        self.refused_shears(round_of, many=12, word=three)
        # However large the numbers of its shears would be.
        wide = (MOVED, [((0, 1), [0] * 18 + [1]), ALONG, ((1, 1), [0] * 17 + [1])])
        self.refused_shears(round_of, wide, 12)
        self.refused_shears(round_of, (MOVED, [((0, 1), [0] * 18 + [1]), ((1, 0), [0] * 18 + [1])] * 12), 12)

    def test_degrees(self):
        for word in drawn_words(704, 40):
            found = round_degrees(word, 3)
            self.assertIs(found.__class__, list)
            self.assertEqual(found, [degree_of(round_of(word, many)) for many in (1, 2, 3)])
            for number in found:
                self.assertIs(number.__class__, int)
            self.assertEqual(round_degrees(many=2, word=word), found[:2])
            self.assertEqual(round_degrees(word, 1), [degree_of(word)])

    def test_degrees_of_eight_rounds(self):
        self.assertEqual(round_degrees((SWAP, [UP]), 8), [2 ** many for many in range(1, 9)])
        self.assertEqual(round_degrees((Change(X, -Y), [UP_BACK]), 8), [2, 1] * 4)
        three = (MOVED, [((0, 1), [0] * 18 + [1]), ((1, 0), [0] * 18 + [1]), ((1, 1), [0] * 18 + [1])])
        self.assertEqual(round_degrees(three, 8), [(18 ** 3) ** many for many in range(1, 9)])
        four = (MOVED, three[1] + [((1, 2), [0, 0, 1])])
        self.assertEqual(round_degrees(four, 6), [(2 * 18 ** 3) ** many for many in range(1, 7)])
        self.refused_shears(round_degrees, four, 7)
        self.refused_shears(round_degrees, many=8, word=four)
        self.assertEqual(round_degrees((SAME, [UP, ALONG] * 12), 1), [2 ** 24])
        self.refused_shears(round_degrees, (SAME, [UP, ALONG] * 12), 2)

    def test_wrong_many(self):
        for wrong in not_counts() + [13, 14, 10 ** 30]:
            with self.subTest(wrong):
                self.refused_value(InvalidMany, wrong, round_of, (SWAP, [UP]), wrong)
                self.refused_value(InvalidMany, wrong, round_of, many=wrong, word=(SAME, [UP, ALONG] * 12))
        for wrong in not_counts() + [0, 9, 12, 10 ** 30]:
            with self.subTest(wrong):
                self.refused_value(InvalidMany, wrong, round_degrees, (SWAP, [UP]), wrong)
                self.refused_value(InvalidMany, wrong, round_degrees, many=wrong, word=(SAME, [UP, ALONG] * 12))

    def test_wrong_words(self):
        for wrong in not_words():
            with self.subTest(wrong):
                for function in (round_of, round_degrees):
                    self.refused_value(InvalidWord, wrong, function, wrong, 2)
                    self.refused_value(InvalidWord, wrong, function, many=None, word=wrong)
                for function in (pace, row, home):
                    self.refused_value(InvalidWord, wrong, function, wrong)
                    self.refused_value(InvalidWord, wrong, function, word=wrong)
                self.refused_value(InvalidWord, wrong, is_unlike, wrong, NOTHING)
                self.refused_value(InvalidWord, wrong, is_unlike, other=None, word=wrong)
                self.refused_value(InvalidWord, wrong, is_unlike, NOTHING, wrong)
                self.refused_value(InvalidWord, wrong, is_led, wrong, NOTHING, NOTHING)
                self.refused_value(InvalidWord, wrong, is_led, other=None, by=None, word=wrong)
                self.refused_value(InvalidWord, wrong, is_led, NOTHING, wrong, None)
                self.refused_value(InvalidWord, wrong, is_led, (SAME, [UP, ALONG] * 12), (SAME, [UP]), wrong)
                self.refused_value(InvalidWord, wrong, is_led, by=wrong, word=NOTHING, other=NOTHING)
        self.refused_value(InvalidWord, 5, is_unlike, (SWAP, [UP]), 5)


class PaceTest(Case):
    def test_how_degrees_of_rounds_grow(self):
        above = 0
        for word in drawn_words(711, 60):
            core, by = least(word)
            found = pace(word)
            self.assertIs(found.__class__, int)
            self.assertEqual(pace(word=core), found)
            told, size = round_degrees(core, 3), degree_of(by)
            for many in (1, 2, 3):
                self.assertLessEqual(round_degrees(word, 3)[many - 1], size * size * told[many - 1])
            if found > 1:
                above += 1
                self.assertEqual(told, [found ** many for many in (1, 2, 3)])
                self.assertEqual([len(round_of(core, many)[1]) for many in (1, 2, 3)], [len(core[1]) * many for many in (1, 2, 3)])
            else:
                for many in range(7):
                    self.assertLessEqual(len(round_of(core, many)[1]), 1)
                    self.assertLessEqual(degree_of(round_of(core, many)), degree_of(core))
        self.assertGreater(above, 20)

    def test_examples(self):
        twice = Change(X.scaled(2), Y.scaled(3))
        for word, wanted in (
            (NOTHING, 1), ((SWAP, []), 1), ((SAME, [UP]), 1), ((SWAP, [UP]), 2), ((twice, [UP]), 1),
            ((twice, [((1, 1), [0, 0, 0, 1])]), 3), ((SWAP, [((1, 1), [0, 0, 0, 1])]), 1), ((SAME, [UP, ALONG]), 4),
            ((SWAP, [UP, ALONG]), 2), ((SWAP, [UP, ALONG_BACK]), 1), ((SAME, [ALONG, UP, ALONG_BACK]), 1),
            ((SAME, [ALONG, ((0, 1), [0, 0, 0, 1]), ALONG]), 6), ((SAME, [UP, ALONG] * 12), 2 ** 24),
            ((straight([[1, 1], [0, 1]], (0, 0)), [UP]), 2), ((straight([[1, 1], [0, 1]], (5, 0)), [ALONG]), 1),
            ((straight([[1, 0], [2, 1]], (0, 7)), [UP]), 1),
        ):
            self.assert_integer(pace(word), wanted)

    def test_of_one_shear(self):
        draw = Draw(712)
        for _ in range(40):
            word = draw.word(1)
            wanted = 1 if keeps(word[0], word[1][0][0]) else degrees(word)[0]
            self.assert_integer(pace(word), wanted)


class RowTest(Case):
    def test_the_least_of_all_turns(self):
        for word in drawn_words(721, 60):
            core, found = least(word)[0], row(word)
            self.assertIs(found.__class__, list)
            for number in found:
                self.assertIs(number.__class__, int)
            self.assertEqual(product(found), pace(word))
            if found:
                turns = [degrees(core)[at:] + degrees(core)[:at] for at in range(len(core[1]))]
                self.assertEqual(found, sorted(turns)[0])
                self.assertEqual(row(word=turned(word)), found)
            else:
                self.assertEqual(pace(word), 1)

    def test_examples(self):
        def made(numbers):
            return SAME, [((1, at), [0] * number + [1]) for at, number in enumerate(numbers)]

        for numbers, wanted in (
            ([4, 2, 3], [2, 3, 4]), ([4, 3, 2], [2, 4, 3]), ([2, 3, 2, 2], [2, 2, 2, 3]), ([3, 2, 4, 2, 3], [2, 3, 3, 2, 4]),
            ([5, 5], [5, 5]), ([18, 2], [2, 18]), ([10, 9, 2], [2, 10, 9]), ([2] * 24, [2] * 24), ([2, 3, 2, 4], [2, 3, 2, 4]),
        ):
            self.assert_alike(row(made(numbers)), wanted)
        for word in (NOTHING, (SAME, [UP]), (SWAP, []), (SWAP, [UP, ALONG_BACK])):
            self.assert_alike(row(word), [])
        self.assert_alike(row((SWAP, [UP])), [2])
        self.assert_alike(row((SWAP, [UP, ALONG])), [2])


class HomeTest(Case):
    def test_straight_ones_led_by_others(self):
        draw = Draw(731)
        for wanted in HOMES:
            for at in range(5):
                turn = straight(HOMES[wanted], (0, 0))
                word = led_by((turn, []), drawn_by(draw)) if at else (turn, [])
                self.assert_integer(home(word), wanted)
                self.assert_integer(home(word=word), wanted)
                self.assert_word(round_of(word, wanted), NOTHING)
                for many in range(1, wanted):
                    self.assertFalse(same_word(round_of(word, many), NOTHING))

    def test_never(self):
        draw = Draw(732)
        turn = straight([[1, 1], [0, 1]], (0, 0))
        for word in (
            (MOVED, []), (Change(X.scaled(2), Y), []), (turn, []), (SAME, [UP]), (Change(X, -Y + NUMBER(1)), [ALONG]),
            (Change(X.scaled(-1), Y), [UP]), (straight([[1, 1], [1, 0]], (0, 0)), []), (straight([[-1, 1], [0, -1]], (0, 0)), []),
        ):
            for one in (word, led_by(word, drawn_by(draw)), led_by(word, drawn_by(draw))):
                self.assertIsNone(home(one))
                for many in range(1, 7):
                    self.assertFalse(same_word(round_of(one, many), NOTHING))

    def test_with_a_pace_above_one(self):
        for word in ((SWAP, [UP]), (SAME, [UP, ALONG]), (SAME, [UP, ALONG] * 12), (SWAP, [((0, 1), [0] * 18 + [1])])):
            self.assertIsNone(home(word))
        draw = Draw(733)
        for _ in range(10):
            self.assertIsNone(home(led_by((SWAP, [UP]), drawn_by(draw))))

    def test_with_a_shear(self):
        back = word_of(Change(X, X * X - Y))
        self.assert_bool(is_least(back), True)
        self.assertEqual(len(back[1]), 1)
        self.assert_integer(home(back), 2)
        self.assert_integer(home((Change(-X, Y), [((0, 1), [0, 0, 0, 1])])), 2)
        self.assertIsNone(home((Change(-X, Y), [((0, 1), [0, 0, 1, 1])])))
        self.assertIsNone(home((SWAP, [((1, 1), [0, 0, 1])])))
        self.assert_integer(home((SWAP, [((1, 1), [0, 0, 0, 1])])), 2)
        self.assert_integer(home(led_by(back, (SAME, [((1, 5), [0, 0, 0, 2])]))), 2)

    def test_home_of_drawn_words_as_their_points_tell(self):
        for word in drawn_words(734, 40):
            found, points = home(word), [(1, 2), (Ratio(1, 3), -1), (0, 0), (5, 7), (-2, Ratio(3, 2))]
            for point in [pair(point) for point in points] if found else []:
                left = point
                for _ in range(found):
                    left = slow_word_at(word, left)
                self.assertEqual(left, point)


class LedTest(Case):
    def test_by_the_by_of_the_least_word(self):
        for word in drawn_words(741, 40):
            found, by = least(word)
            self.assert_bool(is_led(word, found, by), True)
            self.assert_bool(is_led(by=undone_word(by), other=word, word=found), True)
            self.assert_bool(is_led(word, found, behind_word(found, by)), True)
            self.assert_bool(is_led(word, word, NOTHING), True)
            self.assert_bool(is_led(word, word, word), True)

    def test_by_drawn_words(self):
        draw = Draw(742)
        for word in drawn_words(743, 30):
            by = drawn_by(draw)
            other = led_by(word, by)
            self.assert_bool(is_led(word, other, by), True)
            self.assert_bool(is_led(other, word, undone_word(by)), True)
            moved = behind_word((MOVED, []), other)
            self.assert_bool(is_led(word, moved, by), same_word(moved, other))
            for one, two in ((word, other), (other, word), (word, turned(other))):
                self.assert_bool(is_unlike(one, two), False)
                self.assert_bool(is_unlike(other=two, word=one), False)

    def test_as_changes(self):
        words = [NOTHING, (SWAP, []), (SAME, [UP]), (SAME, [ALONG]), (SWAP, [UP]), (MOVED, []), (SAME, [((0, 1), [0, 0, 2])])]
        led = 0
        for one in words:
            for two in words:
                for by in words:
                    ahead = word_change(by).behind(word_change(one))
                    wanted = ahead == word_change(two).behind(word_change(by))
                    self.assert_bool(is_led(one, two, by), wanted)
                    led += wanted
        self.assertGreater(led, 20)

    def test_examples(self):
        self.assert_bool(is_led((SAME, [ALONG, UP, ALONG_BACK]), (SAME, [UP]), (SAME, [ALONG_BACK])), True)
        self.assert_bool(is_led((SAME, [ALONG, UP, ALONG_BACK]), (SAME, [UP]), (SAME, [ALONG])), False)
        # y + x x and y + 2 x x beside the same first half are led to one another, here by (x, 2 y).
        self.assert_bool(is_led((SAME, [UP]), (SAME, [((0, 1), [0, 0, 2])]), (Change(X, Y.scaled(2)), [])), True)

    def test_twenty_four_shears_and_one_more(self):
        long = (SAME, [UP, ALONG] * 12)
        self.assert_bool(is_led(long, long, NOTHING), True)
        self.refused_shears(is_led, long, long, (SAME, [UP]))
        self.refused_shears(is_led, by=(SAME, [ALONG]), other=long, word=long)
        self.refused_shears(is_led, long, NOTHING, (SAME, [ALONG]))
        self.refused_shears(is_led, NOTHING, long, (SAME, [UP]))
        self.assert_bool(is_led(long, (SAME, [ALONG, UP] * 12), (SAME, [UP_BACK])), True)
        # However large the numbers of both words would be.
        wide = (MOVED, [((0, 1), [0] * 18 + [1]), ((1, 0), [0] * 18 + [1])] * 6)
        self.assert_bool(is_led(wide, wide, (MOVED, [((1, 5), [0] * 18 + [1])] + wide[1][:11])), False)

    def test_is_unlike(self):
        one = (SAME, [((0, 1), [0, 0, 1]), ((1, 0), [0] * 6 + [1])])
        two = (SAME, [((0, 1), [0, 0, 0, 1]), ((1, 0), [0] * 4 + [1])])
        three = (SAME, [((0, 1), [0] * 4 + [1]), ((1, 0), [0, 0, 0, 1]), ((1, 1), [0, 0, 1])])
        four = (SAME, [((0, 1), [0] * 4 + [1]), ((1, 0), [0, 0, 1]), ((1, 1), [0, 0, 0, 1])])
        self.assertEqual(pace(one), pace(two))
        for word, other, wanted in (
            (one, two, True), (three, four, True), (one, one, False), (NOTHING, (SAME, [UP]), False),
            ((SWAP, [UP]), (Change(X, -Y), [UP_BACK]), True), ((SWAP, []), NOTHING, True), ((SWAP, []), (Change(X, -Y), []), False),
            ((Change(X.scaled(2), Y), []), (Change(X, Y.scaled(2)), [UP]), False), ((SWAP, [UP]), (SWAP, [((0, 1), [0, 0, 0, 1])]), True),
            ((Change(X.scaled(Ratio(1, 2)), Y), []), (Change(X.scaled(Ratio(1, 3)), Y), []), True),
            ((SAME, [ALONG, UP, ALONG_BACK]), (SAME, [UP]), False), ((SAME, [UP, ALONG] * 12), (SAME, [ALONG, UP] * 12), False),
        ):
            self.assert_bool(is_unlike(word, other), wanted)
            self.assert_bool(is_unlike(other=word, word=other), wanted)

    def test_is_unlike_as_its_parts_are(self):
        words = drawn_words(744, 14)
        for one in words:
            for two in words:
                wanted = (pace(one), row(one)) != (pace(two), row(two)) or determinant(one[0]) != determinant(two[0])
                self.assert_bool(is_unlike(one, two), wanted)

    def test_told_lists_are_new_and_nothing_is_changed(self):
        word = (SWAP, [UP])
        round_of(word, 2)[1].append(UP)
        round_of(word, 1)[1][0][1].append(5)
        row(word).append(3)
        round_degrees(word, 2).append(3)
        round_of(word, 0)[1].append(UP)
        self.assert_word(round_of(word, 0), NOTHING)
        self.assert_word(round_of(word, 1), (SWAP, [UP]))
        self.assertEqual(row(word), [2])
        self.assertEqual(word_at(word, (2, 3)), (Ratio(7), Ratio(2)))
