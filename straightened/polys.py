"""Polys: sums of unlike products of a power of x and a power of y."""

from straightened.basics import is_count
from straightened.errors import InvalidEntries, InvalidLetter, InvalidMany, InvalidPoly, TooMany
from straightened.lines import counted_degree, plus, put_in, refuse_degree, times, told
from straightened.ratios import Ratio, as_ratio, is_number

MOST_DEGREE = 18


class Poly:
    """A sum of products with their amounts, none of them 0. It never changes."""

    def __init__(self, entries=()):
        if not isinstance(entries, (list, tuple)):
            raise InvalidEntries(None)
        found = {}
        for position, entry in enumerate(entries):
            if not is_entry(entry) or (entry[0], entry[1]) in found:
                raise InvalidEntries(position)
            found[(entry[0], entry[1])] = as_ratio(entry[2])
        self._amounts = {powers: found[powers] for powers in sorted(found)}

    @property
    def degree(self):
        """The greatest sum of both powers of a product; -1 of nought."""
        return max([i + j for i, j in self._amounts], default=-1)

    @property
    def is_nought(self):
        return len(self._amounts) == 0

    def entries(self):
        """The sorted list of the products (i, j, amount)."""
        return [(i, j, self._amounts[(i, j)]) for i, j in self._amounts]

    def amount(self, first, second):
        """The amount of the product with these powers, 0 for none."""
        if not is_count(first):
            raise InvalidMany(first)
        if not is_count(second):
            raise InvalidMany(second)
        return self._amounts.get((first, second), Ratio(0))

    def __add__(self, other):
        check_poly(other)
        return poly_of(summed(self._amounts, other._amounts))

    def __sub__(self, other):
        check_poly(other)
        return self + -other

    def __mul__(self, other):
        check_poly(other)
        refuse_poly_degree(max(self.degree, 0) + max(other.degree, 0))
        return poly_of(spread(self._amounts, other._amounts))

    def __neg__(self):
        return self.scaled(-1)

    def __eq__(self, other):
        return isinstance(other, Poly) and self._amounts == other._amounts

    def __repr__(self):
        return f"Poly({self.entries()})"

    def scaled(self, number):
        """This Poly with all its amounts multiplied by the number."""
        factor = as_ratio(number)
        return poly_of({powers: self._amounts[powers] * factor for powers in self._amounts})

    def worth(self, first, second):
        """What this Poly comes to with the numbers for x and for y."""
        at_x, at_y = as_ratio(first), as_ratio(second)
        found = Ratio(0)
        for row in rows_of(self)[::-1]:
            inner = Ratio(0)
            for number in row[::-1]:
                inner = inner * at_y + number
            found = found * at_x + inner
        return found

    def put(self, first, second):
        """This Poly with the other ones in the places of x and of y."""
        check_poly(first)
        check_poly(second)
        refuse_poly_degree(max(self.degree, 0) * max(first.degree, second.degree, 0))
        found = Poly()
        for row in rows_of(self)[::-1]:
            found = found * first + poly_in_line(row, second)
        return found

    def along(self, first, second):
        """The told line that comes with the lines in the places of x and of y."""
        ahead, behind = told(first), told(second)
        refuse_degree(max(self.degree, 0) * max(counted_degree(ahead), counted_degree(behind)))
        found = []
        for row in rows_of(self)[::-1]:
            found = plus(times(found, ahead), put_in(row, behind))
        return found

    def derived(self, letter):
        """What this Poly is derived to by the letter."""
        check_letter(letter)
        if letter == "x":
            return Poly([(i - 1, j, amount * i) for i, j, amount in self.entries() if i > 0])
        return Poly([(i, j - 1, amount * j) for i, j, amount in self.entries() if j > 0])

    def degree_in(self, letter):
        """The greatest power of the letter in a product; -1 of nought."""
        check_letter(letter)
        place = 0 if letter == "x" else 1
        return max([powers[place] for powers in self._amounts], default=-1)

    @classmethod
    def x(cls):
        return cls([(1, 0, 1)])

    @classmethod
    def y(cls):
        return cls([(0, 1, 1)])

    @classmethod
    def number(cls, number):
        """The Poly that is the number alone."""
        amount = as_ratio(number)
        return cls([(0, 0, amount)] if amount.sign != 0 else [])


def is_entry(value):
    """Whether any value is a product (i, j, amount) that a Poly can have."""
    if not isinstance(value, tuple) or len(value) != 3:
        return False
    first, second, amount = value
    if not is_count(first) or not is_count(second) or first + second > MOST_DEGREE:
        return False
    return is_number(amount) and as_ratio(amount).sign != 0


def check_poly(value):
    """Refuse what is no Poly."""
    if not isinstance(value, Poly):
        raise InvalidPoly(value)


def check_letter(value):
    """Refuse what is neither "x" nor "y"."""
    if not isinstance(value, str) or value not in ("x", "y"):
        raise InvalidLetter(value)


def refuse_poly_degree(formal):
    """Refuse a formal degree that no Poly has."""
    if formal > MOST_DEGREE:
        raise TooMany("degree", MOST_DEGREE)


def poly_of(amounts):
    """The Poly of a dict of amounts by both powers, of which some may be 0."""
    return Poly([(i, j, amounts[(i, j)]) for i, j in amounts if amounts[(i, j)].sign != 0])


def summed(ahead, behind):
    """The amounts of the sum of two Polys, by both powers."""
    nought = Ratio(0)
    found = {powers: ahead[powers] + behind.get(powers, nought) for powers in ahead}
    for powers in behind:
        if powers not in ahead:
            found[powers] = behind[powers]
    return found


def spread(ahead, behind):
    """The amounts of the product of two Polys, by both powers."""
    nought = Ratio(0)
    found = {}
    for i, j in ahead:
        for k, m in behind:
            powers = (i + k, j + m)
            found[powers] = found.get(powers, nought) + ahead[(i, j)] * behind[(k, m)]
    return found


def rows_of(poly):
    """The lines in y that stand before x ** 0, x ** 1, .. in the Poly."""
    rows = []
    for i in range(poly.degree_in("x") + 1):
        rows.append(told([poly.amount(i, j) for j in range(MOST_DEGREE + 1 - i)]))
    return rows


def poly_in_line(line, poly):
    """The line with the Poly in the place of t, of a degree that a Poly has."""
    found = Poly()
    for number in line[::-1]:
        found = found * poly + Poly.number(number)
    return found


def power_of(poly, many):
    """The product of so many of the Poly, of a degree that a Poly has."""
    found = Poly.number(1)
    for _ in range(many):
        found = found * poly
    return found
