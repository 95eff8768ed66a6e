"""Rounds of a word: how fast their degrees grow, whether they come home, and who is led to whom."""

from straightened.basics import is_count
from straightened.changes import Change
from straightened.errors import InvalidMany
from straightened.joins import contraries, degrees_product, put_ahead, refuse_shears, short_word, shortened
from straightened.lines import degree
from straightened.shears import keeps
from straightened.straights import determinant
from straightened.turned import least
from straightened.words import items_of, told_word

MOST_ROUNDS = 12
MOST_TOLD_DEGREES = 8


def round_of(word, many):
    """The word of the word's change done so many times."""
    items = items_of(word)
    if not is_count(many) or many > MOST_ROUNDS:
        raise InvalidMany(many)
    return short_word(short_rounds(items, many)[-1])


def round_degrees(word, many):
    """The list of the degrees of the rounds 1 to many."""
    items = items_of(word)
    if not is_count(many) or many < 1 or many > MOST_TOLD_DEGREES:
        raise InvalidMany(many)
    found = []
    for _, links in short_rounds(items, many)[1:]:
        refuse_shears(links)
        found.append(degrees_product([item for item, _ in links]))
    return found


def short_rounds(items, many):
    """The short forms of the rounds 0 to many of the row."""
    found = [shortened([])]
    for _ in range(many):
        found.append(put_ahead(items, found[-1]))
    return found


def pace(word):
    """The product of the degrees of the least word's lines; 1 where its rounds do not grow."""
    return pace_of_least(least(word)[0])


def pace_of_least(word):
    """The pace of a told word that is least."""
    straight, shears = word
    if len(shears) == 1 and keeps(straight, shears[0][0]):
        return 1
    return degrees_product(shears)


def row(word):
    """The degrees of the least word's lines, turned until they are the least list; [] with the pace 1."""
    core = least(word)[0]
    if pace_of_least(core) == 1:
        return []
    degrees = [degree(line) for _, line in core[1]]
    return min([degrees[at:] + degrees[:at] for at in range(len(degrees))])


def home(word):
    """Behind how many rounds the word is nothing done; None if it never is."""
    core = least(word)[0]
    if pace_of_least(core) > 1:
        return None
    # What is led to another one comes home with it, and no round of this one has more than one shear.
    rounds = short_rounds(items_of(core), 6)
    for many in (1, 2, 3, 4, 6):
        if is_nothing(rounds[many]):
            return many
    return None


def is_nothing(short):
    """Whether the short row leads each point to itself."""
    front, links = short
    return not links and front == Change.same()


def is_led(word, other, by):
    """Whether by leads the word to the other one: by behind the word is the other one behind by."""
    one, two, third = items_of(word), items_of(other), items_of(by)
    refuse_shears(shortened(third + one)[1])
    refuse_shears(shortened(two + third)[1])
    return is_nothing(shortened(third + one + contraries(two + third)))


def is_unlike(word, other):
    """Whether pace, row or determinant of both words are unlike, so that none is led to the other one."""
    one, two = told_word(word), told_word(other)
    if determinant(one[0]) != determinant(two[0]):
        return True
    # The pace is the product of the row, so alike rows have alike paces.
    return row(one) != row(two)
