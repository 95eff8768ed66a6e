"""Shears handed through straight changes, and rows and words joined."""

from straightened.changes import Change, check_change
from straightened.errors import InvalidItems, InvalidShear
from straightened.joins import contraries, handed_through, joined_word
from straightened.shears import is_shear, told_shear
from straightened.straights import check_straight, is_straight
from straightened.words import items_of

MOST_ITEMS = 60


def handed(change, shear):
    """The tuple (straight change, told shear) as which the shear comes out of the straight change."""
    check_change(change)
    if not is_shear(shear):
        raise InvalidShear(shear)
    check_straight(change)
    return handed_through(change, told_shear(shear))


def joined(items):
    """The word of a row of straight changes and shears."""
    if not isinstance(items, (list, tuple)) or len(items) > MOST_ITEMS:
        raise InvalidItems(None)
    for position, item in enumerate(items):
        if not is_item(item):
            raise InvalidItems(position)
    return joined_word([item if isinstance(item, Change) else told_shear(item) for item in items])


def is_item(value):
    """Whether any value is a straight change or a shear."""
    return is_straight(value) if isinstance(value, Change) else is_shear(value)


def behind_word(word, other):
    """The word of the word behind the other one."""
    ahead, behind = items_of(word), items_of(other)
    return joined_word(ahead + behind)


def undone_word(word):
    """The word of what undoes the word."""
    return joined_word(contraries(items_of(word)))
