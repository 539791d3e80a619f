"""The senses of heads."""

from turnedvalleys.errors import BadHead
from turnedvalleys.forests import heads, parent
from turnedvalleys.lots import lot
from turnedvalleys.rows import is_ahead


def greatest_beneath(row, x):
    """The greatest stone of the lot of a head x but x."""
    return max([y for y in lot(row, x) if y != x])


def sense_of(row, x):
    """The sense of x, which is a head of row."""
    p = parent(row, x)
    greatest_ahead = is_ahead(row, greatest_beneath(row, x), x)
    x_ahead = p is None or is_ahead(row, x, p)
    return 0 if greatest_ahead == x_ahead else 1


def sense(row, x):
    """The sense of a head, 0 or 1."""
    if x not in heads(row):
        raise BadHead(x)
    return sense_of(row, x)


def senses(row):
    """The senses of all heads, by heads ascending."""
    return tuple([sense_of(row, x) for x in heads(row)])
