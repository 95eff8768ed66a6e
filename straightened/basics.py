"""What counts as a whole number: True and False never do."""


def is_integer(value):
    """Whether any value is an INTEGER."""
    return isinstance(value, int) and not isinstance(value, bool)


def is_count(value):
    """Whether any value is an INTEGER of at least 0."""
    return is_integer(value) and value >= 0
