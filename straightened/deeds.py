"""What deeds make of the things and the words that they name."""

from straightened.changes import Change
from straightened.errors import InvalidEntries
from straightened.polys import MOST_DEGREE, Poly
from straightened.shears import shear
from straightened.steps import led, taken
from straightened.straights import straight
from straightened.threads import changed_thread, told_thread
from straightened.turned import least, turned
from straightened.undoing import undone
from straightened.words import word_change, word_of


def made_thing(deed, values):
    """The thing that the deed keeps; values are the things that it names, and what else stands behind its name."""
    match deed:
        case "poly":
            return Poly(values[0])
        case "term":
            return with_term(values[0], values[1], values[2], values[3])
        case "thread":
            return told_thread(values[0])
        case "lay":
            return changed_thread(values[0], values[1])
        case "first":
            return values[0].first
        case "second":
            return values[0].second
        case "word":
            return word_of(values[0])
        case "turned":
            return turned(values[0])
        case "least":
            return least(values[0])[0]
        case _:
            return made_change(deed, values)


def made_change(deed, values):
    """The Change that the deed keeps."""
    match deed:
        case "change":
            return Change(values[0], values[1])
        case "linear":
            return straight([values[:2], values[2:4]], (values[4], values[5]))
        case "shear":
            return shear(values[0], values[1])
        case "behind":
            return values[0].behind(values[1])
        case "undone":
            return undone(values[0])
        case "led":
            return led(values[0])
        case "step":
            return taken(values[0], (values[1], values[2], values[3]))
        case _:
            return word_change(values[0])


def with_term(poly, first, second, number):
    """The Poly with this number as the amount of the product of these powers."""
    if first + second > MOST_DEGREE:
        raise InvalidEntries(0)
    others = [entry for entry in poly.entries() if entry[:2] != (first, second)]
    return Poly(others + [(first, second, number)] if number.sign != 0 else others)
