"""What commands tell of the things that they name."""

from straightened.changes import Change, jacobian
from straightened.crossings import crossing_line
from straightened.halves import half_stop
from straightened.lines import degree
from straightened.numerals import direction_word, number_words
from straightened.polys import Poly
from straightened.rounds import home, pace, round_degrees
from straightened.steps import own_steps
from straightened.stops import stop
from straightened.straights import linear_rows
from straightened.threads import is_thread, thread_at, thread_stop
from straightened.walked import walked
from straightened.words import degree_of, same_word


def answer_of(question, values):
    """The answer to the question; values are the things that it names, and what else stands behind its word."""
    thing = values[0]
    match question:
        case "show":
            return shown(thing)
        case "degree":
            return str(degree_told(thing))
        case "stop":
            return stop_word(thing)
        case "steps":
            return shown_list([f"{place} {number} {many}" for place, number, many in own_steps(thing)])
        case "jacobian":
            return shown_poly(jacobian(thing))
        case "at":
            return number_words(thing.at((values[1], values[2])))
        case "on":
            return number_words(thread_at(thing, values[1]))
        case "pace":
            return str(pace(thing))
        case "home":
            many = home(thing)
            return "-" if many is None else str(many)
        case "rounds":
            return number_words(round_degrees(thing, values[1]))
        case "walked":
            return str(walked(thing))
        case "crossing":
            return shown_line(crossing_line(thing))
        case _:
            return "yes" if same_word(thing, values[1]) else "no"


def or_dash(words):
    """The words; - for none."""
    return words if words else "-"


def shown_list(parts):
    """The parts with a comma and a blank between them; - for none."""
    return or_dash(", ".join(parts))


def shown(thing):
    """The thing in one line."""
    if isinstance(thing, Poly):
        return shown_poly(thing)
    if isinstance(thing, Change):
        return f"{shown_poly(thing.first)} by {shown_poly(thing.second)}"
    if is_thread(thing):
        return f"{shown_line(thing[0])} by {shown_line(thing[1])}"
    return shown_word(thing)


def shown_poly(poly):
    """The Poly's products; - for nought."""
    return or_dash(" ".join([f"{i},{j},{amount}" for i, j, amount in poly.entries()]))


def shown_line(line):
    """The told line's numbers; - for nought."""
    return or_dash(number_words(line))


def shown_word(word):
    """The numbers of the told word's straight change, and its shears."""
    change, shears = word
    across, upward = linear_rows(change)
    alone = [change.first.amount(0, 0), change.second.amount(0, 0)]
    rows = [f"{direction_word(direction)} {number_words(line[2:])}" for direction, line in shears]
    return shown_list([number_words(across + upward + alone)] + rows)


def degree_told(thing):
    """The degree of a Poly, a Change or a word; of a thread the greater one of its lines."""
    if isinstance(thing, (Poly, Change)):
        return thing.degree
    if is_thread(thing):
        return max(degree(thing[0]), degree(thing[1]))
    return degree_of(thing)


def stop_word(thing):
    """The stop of a Change, a Poly or a thread; - if it has none."""
    if isinstance(thing, Change):
        found = stop(thing)
    else:
        found = half_stop(thing) if isinstance(thing, Poly) else thread_stop(thing)
    return "-" if found is None else found
