"""Words turned, their last shear led round to the front, until they are least."""

from straightened.changes import Change
from straightened.joins import handed_through
from straightened.lines import plus
from straightened.words import told_word


def turned(word):
    """The word, turned."""
    straight, shears = told_word(word)
    return turned_on(straight, shears) if shears else (straight, shears)


def is_least(word):
    """Whether the word has at most one shear, or, turned, has not fewer."""
    straight, shears = told_word(word)
    return is_least_told(straight, shears)


def least(word):
    """The tuple of the least word of the word, and of the word by that led it there."""
    straight, shears = told_word(word)
    led_round = []
    while not is_least_told(straight, shears):
        led_round = [shears[-1]] + led_round
        straight, shears = turned_on(straight, shears)
    return (straight, shears), (Change.same(), led_round)


def is_least_told(straight, shears):
    """Whether the told word of both is least."""
    return len(shears) < 2 or len(turned_on(straight, shears)[1]) >= len(shears)


def turned_on(straight, shears):
    """The told word of both, which has shears, turned."""
    straight, moved = handed_through(straight, shears[-1])
    others = shears[:-1]
    if not others or moved[0] != others[0][0]:
        return straight, [moved] + others
    together = plus(moved[1], others[0][1])
    if not together:
        return straight, others[1:]
    return straight, [(moved[0], together)] + others[1:]
