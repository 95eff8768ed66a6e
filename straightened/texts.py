"""Things in their written forms."""

from straightened.changes import Change
from straightened.errors import InvalidThing
from straightened.numerals import direction_word, number_words
from straightened.polys import Poly
from straightened.ratios import as_ratio
from straightened.stops import is_list_of_steps
from straightened.straights import linear_rows
from straightened.threads import is_thread, told_thread
from straightened.words import is_word, told_word


def written(thing):
    """The written form of a Poly, a Change, a word, a thread or steps."""
    return "".join([f"{row}\n" for row in written_rows(thing)])


def written_rows(thing):
    """The lines of the written form, without their line feeds."""
    if isinstance(thing, Poly):
        return ["poly"] + product_rows("product", thing)
    if isinstance(thing, Change):
        return ["change"] + product_rows("first", thing.first) + product_rows("second", thing.second)
    if is_word(thing):
        return word_rows(told_word(thing))
    if is_thread(thing):
        first, second = told_thread(thing)
        return ["thread", row_of("first", first), row_of("second", second)]
    if is_list_of_steps(thing):
        return ["steps"] + [f"step {place} {as_ratio(number)} {many}" for place, number, many in thing]
    raise InvalidThing(thing)


def product_rows(name, poly):
    """A line with this name for each product of the Poly."""
    return [f"{name} {i} {j} {amount}" for i, j, amount in poly.entries()]


def row_of(name, numbers):
    """The line with this name, and these numbers behind it."""
    return f"{name} {number_words(numbers)}" if numbers else name


def word_rows(word):
    """The lines for the told word."""
    straight, shears = word
    across, upward = linear_rows(straight)
    point = [straight.first.amount(0, 0), straight.second.amount(0, 0)]
    rows = ["word", row_of("rows", across + upward), row_of("point", point)]
    return rows + [row_of("shear " + direction_word(direction), line[2:]) for direction, line in shears]
