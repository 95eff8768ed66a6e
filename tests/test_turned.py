"""straightened.turned: points 52 and 53."""

from straightened.changes import Change
from straightened.errors import InvalidWord
from straightened.handed import behind_word, undone_word
from straightened.polys import Poly
from straightened.ratios import Ratio
from straightened.shears import led_direction
from straightened.straights import straight, undone_straight
from straightened.turned import is_least, least, turned
from straightened.words import same_word, word_at, word_change
from tests.helpers import Case, Draw, fractions, not_words, pair

X, Y = Poly.x(), Poly.y()
SAME = Change.same()
UP, ALONG = ((0, 1), [0, 0, 1]), ((1, 0), [0, 0, 1])
UP_BACK, ALONG_BACK = ((0, 1), [0, 0, -1]), ((1, 0), [0, 0, -1])
SWAP = Change(Y, X)


def degrees(word):
    return [len(fractions(line)) - 1 for _, line in word[1]]


def led_by(word, by):
    """By behind the word behind by's contrary."""
    return behind_word(behind_word(by, word), undone_word(by))


def drawn_words(seed, many, most=3):
    """Words, half of them led by drawn shears, so that they are not least."""
    draw, found = Draw(seed), []
    for at in range(many):
        word = draw.word(draw.below(4), most)
        if at % 2:
            word = led_by(word, (SAME, draw.word(1 + draw.below(3), most)[1]))
        found.append(word)
    return found


class TurnedTest(Case):
    def test_the_last_shear_ahead_and_its_contrary_behind(self):
        for word in drawn_words(601, 50):
            found = turned(word)
            if not word[1]:
                self.assert_word(found, word)
            else:
                last = (SAME, [word[1][-1]])
                self.assert_word(found, led_by(word, last))
            self.assert_word(turned(word=word), found)

    def test_at_points(self):
        draw = Draw(602)
        for word in drawn_words(603, 40):
            if word[1]:
                last, point = (SAME, [word[1][-1]]), draw.point()
                there = word_at(last, word_at(word, word_at(undone_word(last), point)))
                self.assert_pair(word_at(turned(word), point), there)

    def test_as_changes(self):
        for word in ((SAME, [UP]), (SWAP, [UP]), (Change(X, Y.scaled(2)), [((1, 3), [0, 0, 5])]), (SWAP, [ALONG])):
            last = (SAME, [word[1][-1]])
            wanted = word_change(last).behind(word_change(word)).behind(word_change(undone_word(last)))
            self.assertEqual(word_change(turned(word)), wanted)

    def test_fewer_shears_exactly_if_the_last_one_is_led_to_the_first_one(self):
        fewer = 0
        for word in drawn_words(604, 60):
            found, shears = turned(word), word[1]
            if len(shears) > 1:
                back = led_direction(undone_straight(word[0]), shears[-1][0])
                meets = pair(back) == pair(shears[0][0])
                self.assertEqual(len(found[1]) < len(shears), meets)
                if not meets:
                    self.assertEqual(degrees(found), degrees(word)[-1:] + degrees(word)[:-1])
                fewer += meets
            else:
                self.assertEqual(degrees(found), degrees(word))
        self.assertGreater(fewer, 15)

    def test_examples(self):
        self.assert_word(turned((SAME, [])), (SAME, []))
        self.assert_word(turned((SWAP, ())), (SWAP, []))
        self.assert_word(turned((SAME, [UP])), (SAME, [UP]))
        self.assert_word(turned((SWAP, [UP])), (SWAP, [ALONG]))
        self.assert_word(turned((SAME, [UP, ALONG])), (SAME, [ALONG, UP]))
        self.assert_word(turned((SWAP, [UP, ALONG])), (SWAP, [((0, 1), [0, 0, 2])]))
        self.assert_word(turned((SWAP, [UP, ALONG_BACK])), (SWAP, []))
        self.assert_word(turned((SAME, [ALONG, UP, ALONG_BACK])), (SAME, [UP]))
        self.assert_word(turned((SAME, [ALONG, UP, ALONG])), (SAME, [((1, 0), [0, 0, 2]), UP]))
        # Both go to a lower degree.
        word = (SAME, [((1, 0), [0, 0, 1, 3]), UP, ((1, 0), (0, 0, 0, Ratio(-3)))])
        self.assert_word(turned(word), (SAME, [ALONG, UP]))

    def test_of_twenty_four_shears(self):
        word = (SAME, [UP, ALONG] * 12)
        self.assert_word(turned(word), (SAME, [ALONG, UP] * 12))
        self.assert_bool(is_least(word), True)
        self.assert_word(turned((SWAP, [UP, ALONG] * 12)), (SWAP, [((0, 1), [0, 0, 2]), ALONG] + [UP, ALONG] * 10 + [UP]))


class LeastTest(Case):
    def test_turned_as_long_as_it_is_not_least(self):
        for word in drawn_words(611, 60):
            found, by = least(word)
            left, led_round = word, []
            while not is_least(left):
                self.assertLess(len(turned(left)[1]), len(left[1]))
                led_round = [left[1][-1]] + led_round
                left = turned(left)
            self.assert_word(found, left)
            self.assert_word(by, (SAME, led_round))
            self.assertEqual(least(word=word), (found, by))
            self.assert_bool(is_least(word=found), True)
            self.assert_bool(is_least(word), led_round == [])

    def test_by_leads_the_word_to_the_least_one(self):
        draw = Draw(612)
        for word in drawn_words(613, 60):
            found, by = least(word)
            self.assert_word(found, led_by(word, by))
            point = draw.point()
            self.assert_pair(word_at(found, word_at(by, point)), word_at(by, word_at(word, point)))

    def test_what_is_led_to_one_another_has_least_words_alike_in_number_and_degrees(self):
        draw = Draw(614)
        for _ in range(30):
            word = draw.word(2 + draw.below(2), 3)
            other = led_by(word, draw.word(1 + draw.below(2), 3))
            one, two = least(word)[0], least(other)[0]
            if len(one[1]) > 1:
                self.assertEqual(len(one[1]), len(two[1]))
                turns = [degrees(one)[at:] + degrees(one)[:at] for at in range(len(one[1]))]
                self.assertIn(degrees(two), turns)

    def test_is_least(self):
        for word, wanted in (
            ((SAME, []), True), ((SWAP, []), True), ((SAME, [UP]), True), ((SWAP, [UP]), True), ((SAME, [UP, ALONG]), True),
            ((SWAP, [UP, ALONG]), False), ((SWAP, [UP, ALONG_BACK]), False), ((SAME, [ALONG, UP, ALONG]), False),
            ((SAME, [ALONG, UP, ((1, 1), [0, 0, 1])]), True), ((SWAP, (ALONG, ((1, 1), [0, 0, 1]), UP)), False),
        ):
            self.assert_bool(is_least(word), wanted)

    def test_examples(self):
        found, by = least((SAME, [ALONG, UP, ALONG_BACK]))
        self.assert_word(found, (SAME, [UP]))
        self.assert_word(by, (SAME, [ALONG_BACK]))
        found, by = least((SAME, [ALONG, UP, ((1, 4), [0, 0, 1]), UP_BACK, ALONG_BACK]))
        self.assert_word(found, (SAME, [((1, 4), [0, 0, 1])]))
        self.assert_word(by, (SAME, [UP_BACK, ALONG_BACK]))
        found, by = least((SAME, [ALONG, UP, ((1, 4), [0, 0, 1]), UP, ALONG_BACK]))
        self.assert_word(found, (SAME, [((0, 1), [0, 0, 2]), ((1, 4), [0, 0, 1])]))
        self.assert_word(by, (SAME, [UP, ALONG_BACK]))

    def test_where_nothing_is_led(self):
        turn = straight([[1, 2], [3, 4]], (5, Ratio(1, 6)))
        for word in ((SAME, []), (turn, []), (turn, [UP]), (SAME, [UP, ALONG]), (SAME, [UP, ALONG] * 12)):
            found, by = least(word)
            self.assert_word(found, word)
            self.assert_word(by, (SAME, []))

    def test_of_long_words(self):
        there = [((1, at), [0, 0, 0, at + 1]) if at % 2 else ((0, 1), [0, 0, at + 1]) for at in range(11)]
        back = [(direction, [-number for number in line]) for direction, line in there[::-1]]
        middle = [((1, 7), [0, 0, 3]), ((1, 8), [0, 0, 0, 1])]
        found, by = least((SAME, there + middle + back))
        self.assert_word(found, (SAME, middle))
        self.assert_word(by, (SAME, back))

    def test_wrong_words(self):
        for wrong in not_words():
            with self.subTest(wrong):
                for function in (turned, is_least, least):
                    self.refused_value(InvalidWord, wrong, function, wrong)
                    self.refused_value(InvalidWord, wrong, function, word=wrong)

    def test_told_lists_are_new_and_nothing_is_changed(self):
        word = (SAME, [ALONG, UP, ALONG_BACK])
        for found in (turned(word), least(word)[0], least(word)[1]):
            found[1][0][1].append(5)
            found[1].append(UP)
        self.assert_word(least(word)[0], (SAME, [UP]))
        self.assertEqual(word, (SAME, [ALONG, UP, ALONG_BACK]))
        self.assertEqual(UP, ((0, 1), [0, 0, 1]))
        self.assert_bool(same_word(least(word)[1], (SAME, [ALONG_BACK])), True)
