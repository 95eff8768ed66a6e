"""Lines: lists of 0 to 31 numbers c0, c1, .. that stand for c0 + c1 t + c2 t t + .."""

from straightened.errors import InvalidLine, NoughtLine, TooMany
from straightened.ratios import Ratio, as_ratio, is_number

MOST_NUMBERS = 31
MOST_LINE_DEGREE = 30


def is_line(value):
    """Whether any value is a line."""
    if not isinstance(value, (list, tuple)) or len(value) > MOST_NUMBERS:
        return False
    return all([is_number(number) for number in value])


def told(line):
    """The line as a new list of Ratios without noughts at its end."""
    if not is_line(line):
        raise InvalidLine(line)
    return trimmed([as_ratio(number) for number in line])


def degree(line):
    """The position of the last number that is not 0; -1 if the line is nought."""
    return len(told(line)) - 1


def plus(line, other):
    """The sum of both lines."""
    ahead, behind = told(line), told(other)
    return added(ahead, behind)


def minus(line, other):
    """The line less the other one."""
    ahead, behind = told(line), told(other)
    return added(ahead, [-number for number in behind])


def scaled(line, number):
    """The line with all its numbers multiplied by the number."""
    numbers, factor = told(line), as_ratio(number)
    return trimmed([one * factor for one in numbers])


def derived(line):
    """The line with the numbers c1, 2 c2, 3 c3, .."""
    numbers = told(line)
    return [numbers[power] * power for power in range(1, len(numbers))]


def times(line, other):
    """The product of both lines."""
    ahead, behind = told(line), told(other)
    refuse_degree(counted_degree(ahead) + counted_degree(behind))
    return multiplied(ahead, behind)


def put_in(line, other):
    """The line with the other one in the place of t."""
    numbers, inner = told(line), told(other)
    refuse_degree(counted_degree(numbers) * counted_degree(inner))
    found = []
    for number in numbers[::-1]:
        found = added(multiplied(found, inner), [number])
    return found


def worth(line, number):
    """What the line comes to with the number for t."""
    numbers, place = told(line), as_ratio(number)
    found = Ratio(0)
    for one in numbers[::-1]:
        found = found * place + one
    return found


def divided(line, other):
    """The tuple (quotient, rest) of the line divided by the other one."""
    numbers, divisor = told(line), told(other)
    if not divisor:
        raise NoughtLine()
    return parted(numbers, divisor)


def common(line, other):
    """The line of the greatest degree that divides both, its last number 1; nought if both are."""
    ahead, behind = told(line), told(other)
    while behind:
        # Without the last number made 1 the rests' numbers would grow beyond all need.
        ahead, behind = behind, ending_with_one(parted(ahead, behind)[1])
    return ending_with_one(ahead)


def trimmed(numbers):
    """The list of Ratios without the noughts at its end, as a new list."""
    many = len(numbers)
    while many > 0 and numbers[many - 1].sign == 0:
        many -= 1
    return numbers[:many]


def counted_degree(numbers):
    """The degree of a told line as formal degrees count it: nought counts as 0."""
    return max(len(numbers) - 1, 0)


def refuse_degree(formal):
    """Refuse a formal degree that no line has."""
    if formal > MOST_LINE_DEGREE:
        raise TooMany("degree", MOST_LINE_DEGREE)


def number_at(numbers, power):
    """The number of a told line before this power of t."""
    return numbers[power] if power < len(numbers) else Ratio(0)


def added(ahead, behind):
    """The sum of two lists of Ratios, told."""
    longer = max(len(ahead), len(behind))
    return trimmed([number_at(ahead, power) + number_at(behind, power) for power in range(longer)])


def multiplied(ahead, behind):
    """The product of two told lines, whatever degree it has."""
    if not ahead or not behind:
        return []
    found = [Ratio(0) for _ in range(len(ahead) + len(behind) - 1)]
    for power, number in enumerate(ahead):
        for more, other in enumerate(behind):
            found[power + more] = found[power + more] + number * other
    return found


def parted(numbers, divisor):
    """The tuple (quotient, rest) of two told lines, the divisor not nought."""
    rest = list(numbers)
    falling = []
    for power in range(len(numbers) - len(divisor), -1, -1):
        factor = rest[power + len(divisor) - 1].over(divisor[-1])
        falling.append(factor)
        for more, number in enumerate(divisor):
            rest[power + more] = rest[power + more] - factor * number
    return falling[::-1], trimmed(rest)


def ending_with_one(numbers):
    """The told line divided by its last number; nought stays nought."""
    return [number.over(numbers[-1]) for number in numbers]
