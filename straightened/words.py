"""Words: a straight change and shears, as which a change that can be undone is told in just one way."""

from straightened.changes import Change, told_point
from straightened.errors import InvalidWord
from straightened.joins import MOST_SHEARS, degrees_product, joined_word
from straightened.lines import worth
from straightened.polys import refuse_poly_degree
from straightened.ratios import Ratio
from straightened.shears import is_shear, level_at, shear, told_direction, told_shear
from straightened.straights import is_straight
from straightened.undoing import walked_to_straight


def is_word(value):
    """Whether any value is a word."""
    if not isinstance(value, tuple) or len(value) != 2:
        return False
    straight, shears = value
    if not isinstance(straight, Change) or not is_straight(straight):
        return False
    if not isinstance(shears, (list, tuple)) or len(shears) > MOST_SHEARS:
        return False
    return all([is_shear(item) for item in shears]) and not has_like_neighbours(shears)


def has_like_neighbours(shears):
    """Whether two shears that stand side by side have the same direction."""
    directions = [told_direction(item[0]) for item in shears]
    return any([directions[at] == directions[at + 1] for at in range(len(directions) - 1)])


def told_word(word):
    """The word with its shears told."""
    if not is_word(word):
        raise InvalidWord(word)
    return word[0], [told_shear(item) for item in word[1]]


def items_of(word):
    """The word as a row: the straight change, and behind it the told shears."""
    straight, shears = told_word(word)
    return [straight] + shears


def degree_of(word):
    """The product of the degrees of the word's lines."""
    return degrees_product(told_word(word)[1])


def word_change(word):
    """The change for which the word stands."""
    straight, shears = told_word(word)
    refuse_poly_degree(degrees_product(shears))
    change = Change.same()
    for direction, line in shears[::-1]:
        change = shear(direction, line).behind(change)
    return straight.behind(change)


def word_at(word, point):
    """The point to which the word leads the point."""
    straight, shears = told_word(word)
    place = told_point(point)
    for direction, line in shears[::-1]:
        length = worth(line, level_at(direction, place))
        place = (place[0] + length * direction[0], place[1] + length * direction[1])
    return straight.at(place)


def word_of(change):
    """The word of a change that can be undone."""
    steps, left = walked_to_straight(change)
    return joined_word([step_undone(step) for step in steps] + [left])


def step_undone(step):
    """The told shear that undoes the step; a straight change if its power is 1."""
    place, number, many = step
    direction = (Ratio(1), Ratio(0)) if place == 0 else (Ratio(0), Ratio(1))
    line = [Ratio(0) for _ in range(many)] + [number]
    return shear(direction, line) if many == 1 else (direction, line)


def same_word(word, other):
    """Whether both words are told alike."""
    one, two = told_word(word), told_word(other)
    return one == two
