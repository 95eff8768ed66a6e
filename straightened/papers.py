"""What shows how often a thread is walked, and whether the rounds of a word come home."""

from straightened.basics import is_integer
from straightened.changes import is_point, told_point
from straightened.joins import contraries, shear_ahead, shortened
from straightened.lines import common, degree, is_line, minus, put_in, worth
from straightened.ratios import Ratio, is_number
from straightened.residues import is_surely_moved
from straightened.rounds import home
from straightened.shears import keeps
from straightened.threads import is_thread, told_thread
from straightened.turned import least
from straightened.words import is_word, items_of, told_word, word_at

# Behind one of these many rounds each word comes home that ever does.
HOMES = (1, 2, 3, 4, 6)


def lone_number(thread):
    """A number whose point a thread that is walked once passes for this number alone."""
    number = 0
    while not is_lone_number(thread, number):
        number += 1
    return Ratio(number)


def is_lone_number(thread, value):
    """Whether any value is a number whose point the thread passes for this number alone, and just once."""
    first, second = told_thread(thread)
    if not is_number(value):
        return False
    return degree(common(less_worth(first, value), less_worth(second, value))) == 1


def less_worth(line, number):
    """The line less its worth at the number."""
    return minus(line, [worth(line, number)])


def is_walked_through(thread, value):
    """Whether any value is a tuple (thread, line) that come to the thread, the line of degree 2 or more."""
    lines = told_thread(thread)
    if not isinstance(value, tuple) or len(value) != 2 or not is_thread(value[0]) or not is_line(value[1]):
        return False
    wide = degree(value[1])
    if wide < 2 or greater_degree(value[0]) * wide != greater_degree(lines):
        return False
    return (put_in(value[0][0], value[1]), put_in(value[0][1], value[1])) == lines


def greater_degree(thread):
    """The greater degree of both lines."""
    return max(degree(thread[0]), degree(thread[1]))


def is_homecoming(word, value):
    """Whether any value is one of 1, 2, 3, 4, 6, and so many rounds of the word do nothing."""
    if not is_integer(value) or value not in HOMES:
        return False
    many = home(word)
    return many is not None and value % many == 0


def is_growth(word, value):
    """Whether any value is a word that leads the word to one that is least and has a pace above 1."""
    if not is_word(value):
        return False
    by = items_of(value)
    # Told as a word, its numbers might grow beyond all bounds.
    front, links = shortened(by + items_of(word) + contraries(by))
    if not links:
        return False
    item, behind = links[-1]
    between = behind.behind(front)
    if len(links) == 1:
        return not keeps(between, item[0])
    return len(shear_ahead(item, between, links[:-1])[1]) == len(links)


def moved_points(word):
    """Five points, none of which the round to the number at its place leads to itself."""
    return [moved_point(word, many) for many in HOMES]


def moved_point(word, many):
    """A point that so many rounds, which do something, do not lead to itself."""
    wide, found = 0, None
    while found is None:
        wide += 1
        found = moved_in_square(word, many, wide)
    return found


def moved_in_square(word, many, wide):
    """The first such point of a square so wide; None if there is none."""
    for across in range(wide):
        for upward in range(wide):
            point = Ratio(across), Ratio(upward)
            if is_moved(word, many, point):
                return point
    return None


def moves_all(word, value):
    """Whether any value is a list of five points as moved_points tells them."""
    if not isinstance(value, (list, tuple)) or len(value) != len(HOMES):
        return False
    if not all([is_point(point) for point in value]):
        return False
    return all([is_moved(word, many, point) for many, point in zip(HOMES, value)])


def is_moved(word, many, point):
    """Whether so many rounds of the word, of the pace 1, do not lead the point to itself."""
    place = told_point(point)
    if is_surely_moved(told_word(word), many, place):
        return True
    # By leads the word to its least one, so the rounds of this one ask the same of the point that by leads to.
    core, by = least(word)
    start = word_at(by, place)
    end = start
    for _ in range(many):
        end = word_at(core, end)
    return end != start
