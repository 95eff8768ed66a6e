"""Rows of straight changes and shears, and how they are joined.

A row is first made short: the tuple (front, links) of a straight change and a list of tuples
(shear, straight change) that stand one behind the other, none of which meets its neighbour along
one direction. The straight changes stay between the shears there: handed on through all of them,
as a word asks it, their numbers may grow beyond all bounds, and whoever only counts the shears, or
asks for their degrees, does not need that.
"""

from straightened.changes import Change
from straightened.errors import TooMany
from straightened.lines import degree, plus, put_in, scaled
from straightened.ratios import Ratio
from straightened.shears import direction_of, level_at, shear
from straightened.straights import linear_rows, undone_straight

MOST_SHEARS = 24


def handed_through(change, item):
    """The tuple (straight change, told shear) as which the told shear comes out of the straight change."""
    direction, line = item
    point = point_led_to(change, direction)
    met = direction_of(point)
    factor = point[0] if met[0].sign != 0 else point[1]
    start = level_at(direction, change.at((0, 0)))
    # At this point the level of the direction that is met is worth 1.
    unit = (0, 1) if met[0].sign != 0 else (1, 0)
    slope = level_at(direction, change.at(unit)) - start
    moved = scaled(put_in(line, [start, slope]), factor)
    return change.behind(shear(met, moved[:2])), (met, [Ratio(0), Ratio(0)] + moved[2:])


def point_led_to(change, direction):
    """The point that the straight change, without the numbers that stand alone, leads to the told direction."""
    (a, b), (c, d) = linear_rows(undone_straight(change))
    return a * direction[0] + b * direction[1], c * direction[0] + d * direction[1]


def shortened(items):
    """The short form of a row of straight changes and told shears."""
    return put_ahead(items, (Change.same(), []))


def put_ahead(items, short):
    """The short form of a row with another one, which is short, behind it."""
    front, links = short
    for item in items[::-1]:
        if isinstance(item, Change):
            front = item.behind(front)
        else:
            front, links = shear_ahead(item, front, links)
    return front, links


def shear_ahead(item, front, links):
    """The short form of a told shear with a short row behind it."""
    if not links or direction_of(point_led_to(front, item[0])) != links[0][0][0]:
        return Change.same(), [(item, front)] + links
    (direction, line), straight = links[0]
    front, moved = handed_through(front, item)
    together = plus(moved[1], line)
    if not together:
        return front.behind(straight), links[1:]
    return front, [((direction, together), straight)] + links[1:]


def short_word(short):
    """The word of a short row: its shears are handed through all that stands behind them."""
    front, links = short
    refuse_shears(links)
    straight, shears = Change.same(), []
    for item, behind in links[::-1]:
        straight, moved = handed_through(behind.behind(straight), item)
        shears = [moved] + shears
    return front.behind(straight), shears


def refuse_shears(links):
    """Refuse so many links as no word has shears."""
    if len(links) > MOST_SHEARS:
        raise TooMany("shears", MOST_SHEARS)


def joined_word(items):
    """The word of a row of straight changes and told shears."""
    return short_word(shortened(items))


def degrees_product(shears):
    """The product of the degrees of the shears' lines."""
    found = 1
    for _, line in shears:
        found = found * degree(line)
    return found


def contraries(items):
    """The row that undoes a row of straight changes and told shears."""
    return [contrary_item(item) for item in items[::-1]]


def contrary_item(item):
    """What undoes a straight change, or a told shear."""
    if isinstance(item, Change):
        return undone_straight(item)
    return item[0], scaled(item[1], -1)
