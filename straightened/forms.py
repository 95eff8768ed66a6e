"""Things read from their written forms."""

from straightened.changes import Change
from straightened.errors import InvalidText
from straightened.joins import MOST_SHEARS
from straightened.numerals import amount_of, count_of, direction_told, number_of, numbers_of
from straightened.polys import MOST_DEGREE, Poly
from straightened.ratios import Ratio
from straightened.steps import is_step
from straightened.stops import MOST_STEPS
from straightened.straights import cross, straight

# Longer ones stand in no written form, and Python itself refuses to read far longer ones.
MOST_DIGITS = 4000


def read(text):
    """The thing that has this written form."""
    if not isinstance(text, str):
        raise InvalidText(0)
    rows = text.split("\n")
    if rows[0] not in READERS:
        raise InvalidText(1)
    reader = READERS[rows[0]]
    # What stands behind the last line feed is no line that a written form has.
    found = reader([row.split(" ") for row in rows[1:-1]])
    if found is None or rows[-1] != "":
        raise InvalidText(len(rows))
    return found


def refuse_row(at):
    """Refuse the line at this place behind the first one, which tells the kind of thing."""
    raise InvalidText(at + 2)


def read_poly(rows):
    """The Poly of these lines, each told as the list of its words."""
    found = []
    for at, words in enumerate(rows):
        add_product(found, words, "product", at)
    return Poly(found)


def read_change(rows):
    """The Change of these lines."""
    first, second = [], []
    for at, words in enumerate(rows):
        if words[0] == "first" and not second:
            add_product(first, words, "first", at)
        else:
            add_product(second, words, "second", at)
    return Change(Poly(first), Poly(second))


def add_product(found, words, name, at):
    """Put the product that the words tell behind those that were found; refuse it where it cannot stand."""
    product = product_of(words[1:])
    if words[0] != name or product is None:
        refuse_row(at)
    if found and product[:2] <= found[-1][:2]:
        refuse_row(at)
    found.append(product)


def product_of(words):
    """The tuple (i, j, amount) that the words tell; None if they tell none that a Poly can have."""
    if len(words) != 3:
        return None
    first, second = count_of(words[0], MOST_DIGITS), count_of(words[1], MOST_DIGITS)
    amount = amount_of(words[2], MOST_DIGITS)
    if first is None or second is None or amount is None or first + second > MOST_DEGREE:
        return None
    return first, second, amount


def read_word(rows):
    """The word of these lines; None if lines lack."""
    numbers, point, shears = [], [], []
    for at, words in enumerate(rows):
        if at == 0:
            numbers = numbers_behind(words, "rows", 4, at)
            if cross([numbers[:2], numbers[2:]]).sign == 0:
                refuse_row(at)
        elif at == 1:
            point = numbers_behind(words, "point", 2, at)
        else:
            add_shear(shears, words, at)
    if len(rows) < 2:
        return None
    return straight([numbers[:2], numbers[2:]], (point[0], point[1])), shears


def numbers_behind(words, name, many, at):
    """The numbers behind the name, just so many; refuse other words."""
    found = numbers_of(words[1:], MOST_DIGITS)
    if words[0] != name or found is None or len(found) != many:
        refuse_row(at)
    return found


def add_shear(shears, words, at):
    """Put the shear that the words tell behind those that were found; refuse it where it cannot stand."""
    if words[0] != "shear" or not 3 <= len(words) <= MOST_DEGREE + 1 or len(shears) == MOST_SHEARS:
        refuse_row(at)
    direction, numbers = direction_told(words[1], MOST_DIGITS), numbers_of(words[2:], MOST_DIGITS)
    if direction is None or numbers is None or numbers[-1].sign == 0:
        refuse_row(at)
    if shears and shears[-1][0] == direction:
        refuse_row(at)
    shears.append((direction, [Ratio(0), Ratio(0)] + numbers))


def read_thread(rows):
    """The thread of these lines; None if lines lack."""
    found = []
    for at, words in enumerate(rows):
        if at > 1 or words[0] != ("first", "second")[at]:
            refuse_row(at)
        line = told_line_of(words[1:], at)
        if found and len(found[0]) < 2 and len(line) < 2:
            refuse_row(at)
        found.append(line)
    return (found[0], found[1]) if len(found) == 2 else None


def told_line_of(words, at):
    """The told line of these words; refuse one that no thread has."""
    found = numbers_of(words, MOST_DIGITS)
    if found is None or len(found) > MOST_DEGREE + 1 or (found and found[-1].sign == 0):
        refuse_row(at)
    return found


def read_steps(rows):
    """The steps of these lines."""
    found = []
    for at, words in enumerate(rows):
        step = step_of(words)
        if step is None or at == MOST_STEPS:
            refuse_row(at)
        found.append(step)
    return found


def step_of(words):
    """The told step of these words; None if they tell none."""
    if len(words) != 4 or words[0] != "step":
        return None
    found = count_of(words[1], MOST_DIGITS), number_of(words[2], MOST_DIGITS), count_of(words[3], MOST_DIGITS)
    return found if is_step(found) else None


READERS = {
    "poly": read_poly, "change": read_change, "word": read_word, "thread": read_thread, "steps": read_steps,
}
