"""straightened.basics: what counts as an INTEGER and a COUNT."""

from straightened.basics import is_count, is_integer
from straightened.changes import Change
from straightened.polys import Poly
from straightened.ratios import Ratio
from tests.helpers import Case, strange

NONE = strange() + [[], [1], (1, 2), Ratio(0), Ratio(3), Poly.number(1), Change.same()]


class BasicsTest(Case):
    def test_integers(self):
        for value in (0, 1, -1, 17, -10 ** 40, 10 ** 40):
            self.assert_bool(is_integer(value), True)
            self.assert_bool(is_integer(value=value), True)

    def test_counts(self):
        for value in (0, 1, 18, 10 ** 40):
            self.assert_bool(is_count(value), True)
            self.assert_bool(is_count(value=value), True)
        for value in (-1, -2, -10 ** 40):
            self.assert_bool(is_count(value), False)

    def test_other_values_are_none_of_both(self):
        for value in NONE:
            with self.subTest(value):
                self.assert_bool(is_integer(value), False)
                self.assert_bool(is_count(value), False)
