"""straightened.words: points 41, 42, 45 and 47, and what is a word of point 7."""

from straightened.changes import Change
from straightened.errors import InvalidChange, InvalidPoint, InvalidWord, NotUndone
from straightened.heads import head, power_multiple, straight_root
from straightened.polys import Poly
from straightened.ratios import Ratio
from straightened.shears import shear
from straightened.steps import own_steps
from straightened.straights import straight
from straightened.undoing import undone
from straightened.words import degree_of, is_word, same_word, word_at, word_change, word_of
from tests.helpers import (
    Case, Draw, flat_and_bent, fractions, not_changes, not_points, not_words, pair, slow_word_at, undoable,
)

X, Y = Poly.x(), Poly.y()
NUMBER = Poly.number
SAME = Change.same()
UP, ALONG = ((0, 1), [0, 0, 1]), ((1, 0), [0, 0, 1])
STUCK = flat_and_bent()[:6] + [Change(X + X * X * Y, Y), Change(X * X * X, Y * Y), Change(Poly([(18, 0, 1)]), X * Y)]


def degree(line):
    return len(fractions(line)) - 1


def product_of_degrees(word):
    found = 1
    for _, line in word[1]:
        found = found * degree(line)
    return found


def drawn_words(seed, many, shears=3, most=4):
    """Words of 0 to so many shears, of degrees that a change has."""
    draw, found = Draw(seed), []
    while len(found) < many:
        word = draw.word(draw.below(shears + 1), most)
        if product_of_degrees(word) <= 18:
            found.append(word)
    return found


def written_otherwise(word):
    """The same word with other numbers of the same worth, tuples for lists, and noughts put behind the lines."""
    shears = []
    for direction, line in word[1]:
        numbers = [Ratio(1) * number for number in line]
        whole = [number.top if number.is_whole else number for number in numbers]
        shears.append(((Ratio(direction[0]), Ratio(1) * direction[1]), tuple(whole) + (0, Ratio(0))))
    return word[0], tuple(shears)


class IsWordTest(Case):
    def test_words(self):
        for word in drawn_words(401, 40) + [(SAME, []), (SAME, ()), (Change(Y, X), [UP]), (SAME, ((UP, ALONG)))]:
            self.assert_bool(is_word(word), True)
            self.assert_bool(is_word(value=word), True)
            self.assert_bool(is_word(written_otherwise(word)), True)

    def test_twenty_four_shears_and_one_more(self):
        self.assert_bool(is_word((SAME, [UP, ALONG] * 12)), True)
        self.assert_bool(is_word((SAME, tuple([UP, ALONG] * 12))), True)
        self.assert_bool(is_word((SAME, [UP, ALONG] * 12 + [UP])), False)
        wide = [((1, number), [0] * 18 + [number + 1]) for number in range(25)]
        self.assert_bool(is_word((SAME, wide[:24])), True)
        self.assert_bool(is_word((SAME, wide)), False)

    def test_neighbours_of_one_direction(self):
        same_ones = [((1, 2), (Ratio(1), 2)), ((0, 1), (Ratio(0), Ratio(1))), ((1, Ratio(1, 2)), (1, Ratio(2, 4)))]
        for one, two in same_ones:
            self.assert_bool(is_word((SAME, [(one, [0, 0, 1]), (two, [0, 0, 0, 5])])), False)
            between = ((1, 7), [0, 0, 1])
            self.assert_bool(is_word((SAME, [(one, [0, 0, 1]), between, (two, [0, 0, 0, 5])])), True)

    def test_all_else(self):
        for wrong in not_words():
            with self.subTest(wrong):
                self.assert_bool(is_word(wrong), False)

    def test_wrong_words(self):
        for wrong in not_words():
            with self.subTest(wrong):
                for function in (degree_of, word_change):
                    self.refused_value(InvalidWord, wrong, function, wrong)
                    self.refused_value(InvalidWord, wrong, function, word=wrong)
                self.refused_value(InvalidWord, wrong, word_at, wrong, (1, 2))
                self.refused_value(InvalidWord, wrong, word_at, point=[1, 2], word=wrong)
                self.refused_value(InvalidWord, wrong, same_word, wrong, (SAME, []))
                self.refused_value(InvalidWord, wrong, same_word, other=None, word=wrong)
                self.refused_value(InvalidWord, wrong, same_word, (SAME, [UP]), wrong)
                self.refused_value(InvalidWord, wrong, same_word, other=wrong, word=(SAME, []))
        self.refused_value(InvalidWord, None, same_word, None, [])


class WordChangeTest(Case):
    def test_changes_behind_one_another(self):
        for word in drawn_words(411, 40):
            change = SAME
            for direction, line in word[1][::-1]:
                change = shear(direction, line).behind(change)
            found = word_change(word)
            self.assertEqual(found, word[0].behind(change))
            self.assertEqual(word_change(word=written_otherwise(word)), found)

    def test_degrees(self):
        for word in drawn_words(412, 40):
            self.assert_integer(degree_of(word), product_of_degrees(word))
            self.assert_integer(degree_of(word=written_otherwise(word)), product_of_degrees(word))
            self.assertEqual(word_change(word).degree, product_of_degrees(word))
        self.assert_integer(degree_of((SAME, [])), 1)
        wide = [((1, number), [0] * 18 + [number + 1]) for number in range(24)]
        self.assert_integer(degree_of((SAME, wide)), 18 ** 24)

    def test_the_head_is_a_power_of_the_last_level(self):
        for word in drawn_words(413, 40):
            change = word_change(word)
            if word[1]:
                for half in (change.first, change.second):
                    root = straight_root(head(half)) if half.degree == change.degree else None
                    if root is not None:
                        self.assert_pair(root[1], word[1][-1][0])
                    self.assertEqual(root is None, half.degree < change.degree)

    def test_degree_eighteen_and_above(self):
        def made(degrees):
            return SAME, [((1, at), [0] * one + [1]) for at, one in enumerate(degrees)]

        for degrees in ([18], [2, 9], [9, 2], [3, 3, 2], [2, 3, 3]):
            self.assert_integer(word_change(made(degrees)).degree, 18)
        for degrees in ([18, 2], [2, 18], [2, 10], [4, 5], [3, 3, 3], [2] * 5, [2] * 24, [18] * 24):
            self.refused_degree(18, word_change, made(degrees))
            self.refused_degree(18, word_change, word=made(degrees))

    def test_points(self):
        draw = Draw(414)
        for word in drawn_words(415, 40):
            point = draw.point()
            self.assert_pair(word_at(word, point), slow_word_at(word, pair(point)))
            self.assert_pair(word_at(point=point, word=written_otherwise(word)), word_change(word).at(point))
        for many in (8, 10):
            word = draw.word(many, 2)
            self.assert_pair(word_at(word, (1, Ratio(1, 2))), slow_word_at(word, (1, Ratio(1, 2))))
        self.assert_pair(word_at((SAME, [UP, ALONG] * 12), (0, 0)), (0, 0))
        self.assert_pair(word_at((Change(Y + NUMBER(1), X), []), (2, 3)), (4, 2))
        # The last one first: (2, 3) by along (11, 3), by up (11, 124).
        self.assert_pair(word_at((Change(Y, X), [UP, ALONG]), (2, 3)), (124, 11))

    def test_wrong_points(self):
        for wrong in not_points():
            with self.subTest(wrong):
                self.refused_value(InvalidPoint, wrong, word_at, (SAME, [UP]), wrong)
                self.refused_value(InvalidPoint, wrong, word_at, point=wrong, word=(SAME, []))


class WordOfTest(Case):
    def test_of_the_change_of_a_word(self):
        for word in drawn_words(421, 60):
            found = word_of(word_change(word))
            self.assert_word(found, word)
            self.assert_bool(same_word(found, word), True)
            self.assert_bool(is_word(found), True)

    def test_the_change_of_the_word_of_a_change(self):
        for change in undoable(422, 25):
            found = word_of(change=change)
            self.assertEqual(word_change(found), change)
            self.assert_word(found, found)
            self.assertEqual(degree_of(found), change.degree)
            self.assertEqual(degree_of(word_of(undone(change))), change.degree)

    def test_of_degree_eighteen(self):
        draw = Draw(423)
        for degrees in ([18], [2, 9], [6, 3], [3, 6], [3, 2, 3], [2, 3, 3]):
            shears = []
            for at, one in enumerate(degrees):
                direction = (0, 1) if at == 1 else (1, draw.whole())
                shears.append((direction, [0, 0] + [draw.whole(2) for _ in range(one - 2)] + [draw.but_nought(2)]))
            word = (straight(draw.rows(), draw.point()), shears)
            self.assert_word(word_of(word_change(word)), word)

    def test_examples(self):
        bent = Change(X + (Y + X * X) * (Y + X * X), Y + X * X)
        self.assert_word(word_of(bent), (SAME, [ALONG, UP]))
        self.assert_word(word_of(SAME), (SAME, []))
        self.assert_word(word_of(Change(Y, X + Y * Y)), (Change(Y, X), [ALONG]))
        self.assert_word(word_of(Change(X + NUMBER(1), Y + (X * X).scaled(3))), (Change(X + NUMBER(1), Y), [((0, 1), [0, 0, 3])]))
        # Behind the number that is added first the square has a power of 1 and a number, too.
        moved = Change(X, Y + (X + NUMBER(1)) * (X + NUMBER(1)))
        self.assert_word(word_of(moved), (Change(X, Y + X.scaled(2) + NUMBER(1)), [UP]))
        self.assert_word(word_of(Change(X + Y * Y, Y.scaled(2))), (Change(X, Y.scaled(2)), [ALONG]))

    def test_own_steps_of_power_one_and_along_one_direction(self):
        turn = straight([[1, 1], [1, 2]], (3, -1))
        change = turn.behind(shear((1, 2), [0, 0, 1, 5, 2]))
        self.assertEqual(own_steps(change)[0][2], 1)
        self.assert_word(word_of(change), (turn, [((1, 2), [0, 0, 1, 5, 2])]))
        self.assert_word(word_of(shear((0, 1), [7, 3, 1, 5, 2])), (shear((0, 1), [7, 3]), [((0, 1), [0, 0, 1, 5, 2])]))

    def test_not_undone(self):
        for change in STUCK:
            with self.subTest(change):
                self.refused(NotUndone, {}, word_of, change)
                self.refused(NotUndone, {}, word_of, change=change)

    def test_wrong_changes(self):
        for wrong in not_changes():
            with self.subTest(wrong):
                self.refused_value(InvalidChange, wrong, word_of, wrong)
                self.refused_value(InvalidChange, wrong, word_of, change=wrong)


class SameWordTest(Case):
    def test_told_otherwise(self):
        for word in drawn_words(431, 30):
            self.assert_bool(same_word(word, written_otherwise(word)), True)
            self.assert_bool(same_word(other=word, word=written_otherwise(word)), True)

    def test_same_exactly_if_the_changes_are(self):
        words = drawn_words(432, 12, 2, 3) + [(SAME, []), (SAME, [UP]), (Change(Y, X), [UP]), (SAME, [ALONG])]
        words += [(SAME, [((0, 1), [0, 0, 0, 1])]), (SAME, [UP, ALONG]), (SAME, [ALONG, UP])]
        for one in words:
            for two in words:
                wanted = word_change(one) == word_change(two)
                self.assert_bool(same_word(one, two), wanted)

    def test_one_thing_changed(self):
        word = (SAME, [UP, ALONG, ((1, Ratio(1, 2)), [0, 0, 0, 3])])
        for other in (
            (Change(X + NUMBER(1), Y), word[1]), (SAME, word[1][:2]), (SAME, word[1] + [UP]), (SAME, word[1][::-1]),
            (SAME, [UP, ALONG, ((1, Ratio(1, 3)), [0, 0, 0, 3])]), (SAME, [UP, ALONG, ((1, Ratio(1, 2)), [0, 0, 0, 4])]),
            (SAME, [UP, ALONG, ((1, Ratio(1, 2)), [0, 0, 1, 3])]), (SAME, []),
        ):
            self.assert_bool(same_word(word, other), False)

    def test_told_lists_are_new_and_nothing_is_changed(self):
        change = Change(X, Y + X * X)
        found = word_of(change)
        found[1][0][1].append(5)
        found[1].append(UP)
        self.assert_word(word_of(change), (SAME, [UP]))
