"""Threads on the levels of halves, and changes that lead a thread to another one."""

from straightened.changes import Change
from straightened.errors import NotHalf
from straightened.halves import put_down
from straightened.laid import along_told, straightener
from straightened.lines import degree, put_in, told
from straightened.polys import check_poly
from straightened.ratios import as_ratio
from straightened.stops import can_be_undone
from straightened.threads import is_straightened, is_thread, thread_taken, told_thread
from straightened.undoing import undone


def level_thread(poly, number):
    """A straightened thread on which the Poly, which is a half, has this worth everywhere."""
    check_poly(poly)
    height = as_ratio(number)
    steps, left = put_down(poly)
    if left.degree != 1:
        raise NotHalf()
    thread = straight_level(left, height)
    for letter, factor, many in steps[::-1]:
        thread = thread_taken(thread, (0 if letter == "x" else 1, factor, many))
    return centred(thread)


def straight_level(poly, height):
    """A thread on which the Poly, of degree 1, has this worth."""
    at_x, at_y = poly.amount(1, 0), poly.amount(0, 1)
    rest = height - poly.amount(0, 0)
    # Along this direction, and no multiple of it, the numbers of what the steps make of it stay short.
    if at_x.sign == 0:
        return told([0, -at_y]), told([rest.over(at_y)])
    return told([rest.over(at_x), -at_y]), told([0, at_x])


def centred(lines):
    """The told thread, t moved such that its line of the greater degree lacks the power below the highest one."""
    # What the steps leave at the lower powers is made of numbers that grow far longer; so most of it goes.
    line = lines[0] if degree(lines[0]) >= degree(lines[1]) else lines[1]
    if degree(line) < 2:
        return lines
    moved = [-line[-2].over(line[-1] * degree(line)), 1]
    return put_in(lines[0], moved), put_in(lines[1], moved)


def is_level_thread(poly, number, value):
    """Whether any value is a straightened thread on which the Poly has this worth everywhere."""
    check_poly(poly)
    height = told([as_ratio(number)])
    if not is_thread(value) or not is_straightened(value):
        return False
    return along_told(poly, told_thread(value)) == height


def leading_change(thread, other):
    """A change that can be undone and leads the thread to the other one; None unless both are straightened."""
    one, two = told_thread(thread), told_thread(other)
    ahead, behind = straightener(one), straightener(two)
    if ahead is None or behind is None:
        return None
    return undone(behind).behind(ahead)


def is_leading(thread, other, value):
    """Whether any value is a change that can be undone and leads the thread to the other one."""
    one, two = told_thread(thread), told_thread(other)
    if not isinstance(value, Change) or not can_be_undone(value):
        return False
    return along_told(value.first, one) == two[0] and along_told(value.second, one) == two[1]
