"""Tables of numbers: their determinants, and the lines and Polys that have told worths."""

from straightened.lines import added, multiplied, number_at
from straightened.polys import poly_of
from straightened.ratios import Ratio


def shifted_determinant(ahead, behind):
    """The determinant of rows with the numbers ahead, then of rows with those behind, each one place further."""
    wide = len(ahead) + len(behind) - 2
    rows = [shifted_row(ahead, at, wide) for at in range(len(behind) - 1)]
    return table_determinant(rows + [shifted_row(behind, at, wide) for at in range(len(ahead) - 1)])


def shifted_row(numbers, ahead, wide):
    """The numbers with so many noughts ahead, and behind them as many as a row so wide asks for."""
    found = [Ratio(0) for _ in range(ahead)] + numbers
    return found + [Ratio(0) for _ in range(wide - len(found))]


def table_determinant(rows):
    """The determinant of a table of as many rows as columns; 1 if it has none."""
    found, left = Ratio(1), rows
    while left:
        at = place_of_row(left)
        if at is None:
            return Ratio(0)
        # A row that is led past so many others turns the sign as often.
        head = left[at]
        found = found * head[0] if at % 2 == 0 else -(found * head[0])
        left = [row_below(row, head) for row in left[:at] + left[at + 1:]]
    return found


def place_of_row(rows):
    """The place of the first row that does not begin with 0; None if there is none."""
    for at, row in enumerate(rows):
        if row[0].sign != 0:
            return at
    return None


def row_below(row, head):
    """The row behind its first number, less the multiple of the head that takes this away."""
    factor = row[0].over(head[0])
    return [row[at] - factor * head[at] for at in range(1, len(row))]


def line_with_worths(worths):
    """The told line, of a degree below their number, that has these worths at 0, 1, 2, .."""
    left, heads = list(worths), []
    while left:
        heads.append(left[0])
        many = len(heads)
        left = [(left[at + 1] - left[at]).over(many) for at in range(len(left) - 1)]
    found = []
    for at in range(len(heads) - 1, -1, -1):
        found = added(multiplied(found, [Ratio(-at), Ratio(1)]), [heads[at]])
    return found


def poly_with_worths(rows):
    """The Poly that has these worths: rows for x at 0, 1, 2, .., in each of them for y at 0, 1, 2, .."""
    lines = [line_with_worths(row) for row in rows]
    found = {}
    for j in range(max([len(line) for line in lines])):
        for i, number in enumerate(line_with_worths([number_at(line, j) for line in lines])):
            found[(i, j)] = number
    return poly_of(found)
