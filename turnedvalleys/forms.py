"""The forms of values that several files ask for."""


def is_number(value):
    """Whether value is an int that is neither True nor False."""
    return isinstance(value, int) and not isinstance(value, bool)


def fits(number):
    """Whether a number is small enough for a stone."""
    return abs(number) < 10 ** 15
