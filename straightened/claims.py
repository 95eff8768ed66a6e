"""Claims, their contraries, and the papers that show the one or the other."""

from straightened.changes import Change, jacobian
from straightened.crossings import crossing_line, refuse_crossed
from straightened.errors import InvalidClaim, TooMany
from straightened.halves import half_stop, is_half, is_half_stop, own_half_steps
from straightened.laid import is_straightener, straightener
from straightened.lines import degree, is_line, told
from straightened.papers import (
    is_growth, is_homecoming, is_lone_number, is_walked_through, lone_number, moved_points, moves_all,
)
from straightened.partners import is_partner, partner
from straightened.polys import Poly
from straightened.ratios import as_ratio, is_number
from straightened.rounds import home, pace
from straightened.steps import own_steps
from straightened.stops import can_be_undone, is_steps, is_stop, stop
from straightened.threads import is_thread, told_thread
from straightened.turned import least
from straightened.undoing import is_uneven, uneven
from straightened.walked import inner, outer, walked
from straightened.words import is_word

PAIRS = (
    ("undone", "stuck"), ("steady", "uneven"), ("half", "none"), ("straight", "crossed"), ("once", "again"),
    ("home", "never"),
)
KINDS = {
    "undone": "change", "steady": "change", "half": "poly", "straight": "thread", "once": "thread", "home": "word",
}


def words():
    """The tuples of the two words of each claim and its contrary."""
    return list(PAIRS)


def pair_of(word):
    """The tuple of the two words of the word's line; None if it is no claim's word."""
    for pair in PAIRS:
        if word in pair:
            return pair
    return None


def kind_of_claim(word):
    """The kind of the things of which the claim's word tells something."""
    return KINDS[pair_of(word)[0]]


def is_of_kind(kind, value):
    """Whether any value is a thing of this kind."""
    if kind == "poly":
        return isinstance(value, Poly)
    if kind == "change":
        return isinstance(value, Change)
    return is_thread(value) if kind == "thread" else is_word(value)


def is_claim(value):
    """Whether any value is a claim."""
    if not isinstance(value, tuple) or len(value) != 2 or not isinstance(value[0], str):
        return False
    word, thing = value
    if pair_of(word) is None or not is_of_kind(kind_of_claim(word), thing):
        return False
    try:
        refuse_unclaimed(word, thing)
    except TooMany:
        return False
    return True


def refuse_unclaimed(word, thing):
    """Refuse a thing for which the function that tells the claim raises an error."""
    if word in ("steady", "uneven"):
        jacobian(thing)
    elif word in ("straight", "crossed"):
        refuse_crossed(told_thread(thing))


def check_claim(value):
    """Refuse what is no claim."""
    if not is_claim(value):
        raise InvalidClaim(value)


def is_true(claim):
    """Whether the claim is true."""
    check_claim(claim)
    return holds(claim[0], claim[1])


def holds(word, thing):
    """Whether what the claim's word tells of the thing is so."""
    first = pair_of(word)[0]
    return tells_first(first, thing) == (word == first)


def tells_first(first, thing):
    """Whether the first claim of a line is true."""
    match first:
        case "undone":
            return can_be_undone(thing)
        case "steady":
            return jacobian(thing).degree < 1
        case "half":
            return is_half(thing)
        case "straight":
            return degree(crossing_line(thing)) == 0
        case "once":
            return walked(thing) == 1
        case _:
            return home(thing) is not None


def contrary(claim):
    """The claim of the other word of its line, of the same thing."""
    check_claim(claim)
    first, second = pair_of(claim[0])
    return second if claim[0] == first else first, copied(claim[1])


def copied(value):
    """The value, its lists and tuples new ones."""
    if isinstance(value, list):
        return [copied(part) for part in value]
    if isinstance(value, tuple):
        return tuple([copied(part) for part in value])
    return value


def paper_of(claim):
    """A paper of the claim; None if it is not true."""
    check_claim(claim)
    word, thing = claim
    if not holds(word, thing):
        return None
    if is_of_kind("change", thing):
        return change_paper(word, thing)
    match word:
        case "half":
            return partner(thing)
        case "none":
            return own_half_steps(thing), half_stop(thing)
        case "straight":
            return straightener(thing)
        case "crossed":
            return crossing_line(thing)
        case "once":
            return lone_number(thing)
        case "again":
            return outer(thing), inner(thing)
        case "home":
            return home(thing)
        case _:
            return never_paper(thing)


def change_paper(word, change):
    """A paper of what the claim's word tells of the change, which is so."""
    match word:
        case "undone":
            return own_steps(change)
        case "stuck":
            return own_steps(change), stop(change)
        case "steady":
            return jacobian(change).amount(0, 0)
        case _:
            return uneven(change)


def never_paper(word):
    """A paper of a word's never coming home."""
    return ("grows", least(word)[1]) if pace(word) > 1 else ("moves", moved_points(word))


def is_paper_of(claim, value):
    """Whether any value is a paper of the claim."""
    check_claim(claim)
    word, thing = claim
    if is_of_kind("change", thing):
        return is_change_paper(word, thing, value)
    match word:
        case "half":
            return is_partner(thing, value)
        case "none":
            return is_half_stop(thing, value)
        case "straight":
            return is_straightener(thing, value)
        case "crossed":
            return is_crossed_paper(thing, value)
        case "once":
            return is_lone_number(thing, value)
        case "again":
            return is_walked_through(thing, value)
        case "home":
            return is_homecoming(thing, value)
        case _:
            return is_never_paper(thing, value)


def is_change_paper(word, change, value):
    """Whether any value is a paper of what the claim's word tells of the change."""
    match word:
        case "undone":
            return is_steps(change, value)
        case "stuck":
            return is_stop(change, value)
        case "steady":
            return is_steady_paper(change, value)
        case _:
            return is_uneven(change, value)


def is_steady_paper(change, value):
    """Whether any value is the number that the jacobian is."""
    found = jacobian(change)
    return found.degree < 1 and is_number(value) and as_ratio(value) == found.amount(0, 0)


def is_crossed_paper(thread, value):
    """Whether any value is the crossing line, and this is no number but 0."""
    found = crossing_line(thread)
    return degree(found) != 0 and is_line(value) and told(value) == found


def is_never_paper(word, value):
    """Whether any value shows that the word never comes home."""
    if not isinstance(value, tuple) or len(value) != 2 or not isinstance(value[0], str):
        return False
    if value[0] == "grows":
        return is_growth(word, value[1])
    return value[0] == "moves" and pace(word) == 1 and moves_all(word, value[1])
