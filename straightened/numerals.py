"""Counts and numbers as words of digits."""

from math import gcd

from straightened.ratios import Ratio

DIGITS = "0123456789"


def count_of(word, most):
    """The COUNT that the word tells with at most so many digits; None if it tells none."""
    if not word or len(word) > most or (word[0] == "0" and word != "0"):
        return None
    if not all([sign in DIGITS for sign in word]):
        return None
    return int(word)


def whole_of(word, most):
    """The INTEGER that the word tells with at most so many digits; None if it tells none."""
    found = count_of(word.removeprefix("-"), most)
    if found is None or not word.startswith("-"):
        return found
    return None if found == 0 else -found


def number_of(word, most):
    """The Ratio that the word tells, with at most so many digits above and below the stroke; None if none."""
    above, stroke, below = word.partition("/")
    top = whole_of(above, most)
    if top is None or not stroke:
        return None if top is None else Ratio(top)
    bottom = count_of(below, most)
    if bottom is None or bottom < 2 or gcd(top, bottom) > 1:
        return None
    return Ratio(top, bottom)


def amount_of(word, most):
    """As number_of, and None for 0, too."""
    found = number_of(word, most)
    return None if found is None or found.sign == 0 else found


def numbers_of(words, most):
    """The list of the Ratios that the words tell; None if one of them tells none."""
    found = [number_of(word, most) for word in words]
    return None if any([number is None for number in found]) else found


def direction_told(word, most):
    """The told direction for which the word stands; None if it stands for none."""
    if word == "-":
        return Ratio(0), Ratio(1)
    slope = number_of(word, most)
    return None if slope is None else (Ratio(1), slope)


def direction_word(direction):
    """The word for the direction: - for (0, 1), r for (1, r)."""
    return "-" if direction[0].sign == 0 else str(direction[1])


def number_words(numbers):
    """The numbers as words, with one blank between them."""
    return " ".join([str(number) for number in numbers])
