"""Threads on the levels of halves, and changes that lead a thread to another one."""

from straightened.changes import Change
from straightened.errors import NotHalf
from straightened.halves import put_down
from straightened.laid import along_told, straightener
from straightened.lines import told
from straightened.polys import check_poly
from straightened.ratios import as_ratio
from straightened.stops import can_be_undone
from straightened.threads import is_straightened, is_thread, thread_taken, told_thread
from straightened.undoing import undone


def level_thread(poly, number):
    """A straightened thread on which the Poly, which is a half, has this worth everywhere."""
    check_poly(poly)
    height = as_ratio(number)
    steps, left = put_down(poly)
    if left.degree != 1:
        raise NotHalf()
    # The letter that the last step leaves is t: other threads would be told by numbers that grow far longer.
    thread = straight_level(left, height, "y" if steps and steps[-1][0] == "x" else "x")
    for letter, factor, many in steps[::-1]:
        thread = thread_taken(thread, (0 if letter == "x" else 1, factor, many))
    return thread


def straight_level(poly, height, letter):
    """A thread on which the Poly, of degree 1, has this worth; t is the letter, unless the other one stands alone."""
    at_x, at_y = poly.amount(1, 0), poly.amount(0, 1)
    rest = height - poly.amount(0, 0)
    if at_y.sign == 0 or (letter == "y" and at_x.sign != 0):
        return told([rest.over(at_x), -at_y.over(at_x)]), told([0, 1])
    return told([0, 1]), told([rest.over(at_y), -at_x.over(at_y)])


def is_level_thread(poly, number, value):
    """Whether any value is a straightened thread on which the Poly has this worth everywhere."""
    check_poly(poly)
    height = told([as_ratio(number)])
    if not is_thread(value) or not is_straightened(value):
        return False
    return along_told(poly, told_thread(value)) == height


def leading_change(thread, other):
    """A change that can be undone and leads the thread to the other one; None unless both are straightened."""
    one, two = told_thread(thread), told_thread(other)
    ahead, behind = straightener(one), straightener(two)
    if ahead is None or behind is None:
        return None
    return undone(behind).behind(ahead)


def is_leading(thread, other, value):
    """Whether any value is a change that can be undone and leads the thread to the other one."""
    one, two = told_thread(thread), told_thread(other)
    if not isinstance(value, Change) or not can_be_undone(value):
        return False
    return along_told(value.first, one) == two[0] and along_told(value.second, one) == two[1]
