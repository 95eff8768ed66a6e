"""Points led by words in the rests that a prime leaves: what is moved there is moved in numbers, too.

Numbers along a word with many shears may grow beyond all bounds; their rests never do.
"""

from straightened.straights import linear_rows

# The prime 2 ** 89 - 1.
PRIME = 618970019642690137449562111


def is_surely_moved(word, many, point):
    """Whether so many rounds of the told word move the rests of the told point; False where there are no rests."""
    straight, shears = word
    alone = [straight.first.amount(0, 0), straight.second.amount(0, 0)]
    across, upward = [row + [number] for row, number in zip(linear_rows(straight), alone)]
    lists = [list(point), across, upward]
    for direction, line in shears:
        lists = lists + [list(direction), line]
    if any([number.bottom % PRIME == 0 for numbers in lists for number in numbers]):
        return False
    start, *others = [[rest_of(number) for number in numbers] for numbers in lists]
    place = start
    for _ in range(many):
        place = led_rests(others, place)
    return place != start


def rest_of(number):
    """The rest of a Ratio whose bottom is no multiple of the prime."""
    return number.top * inverse(number.bottom) % PRIME


def inverse(number):
    """What the number must be multiplied by to leave the rest 1."""
    ahead, behind = PRIME, number % PRIME
    one, two = 0, 1
    while behind != 0:
        part = ahead // behind
        ahead, behind = behind, ahead - part * behind
        one, two = two, one - part * two
    return one % PRIME


def led_rests(word, place):
    """Where the word leads the place: both rows of its straight change, then a direction and a line of each shear."""
    x, y = place
    for at in range(len(word) - 2, 1, -2):
        direction, line = word[at], word[at + 1]
        height = x if direction[0] == 0 else y - direction[1] * x
        length = rest_at(line, height)
        x, y = x + length * direction[0], y + length * direction[1]
    return [(row[0] * x + row[1] * y + row[2]) % PRIME for row in word[:2]]


def rest_at(line, height):
    """The rest of what the line of rests comes to with the height for t."""
    found = 0
    for number in line[::-1]:
        found = (found * height + number) % PRIME
    return found
