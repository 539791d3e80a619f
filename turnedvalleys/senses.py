"""The senses of heads."""

from turnedvalleys.errors import BadHead
from turnedvalleys.forests import heads, parent
from turnedvalleys.lots import lot


def sense_of(row, x):
    """The sense of x, which is a head of row."""
    place = row.place(x)
    greatest = max([y for y in lot(row, x) if y != x])
    p = parent(row, x)
    greatest_ahead = row.place(greatest) < place
    x_ahead = p is None or place < row.place(p)
    return 0 if greatest_ahead == x_ahead else 1


def sense(row, x):
    """The sense of a head, 0 or 1."""
    if x not in heads(row):
        raise BadHead(x)
    return sense_of(row, x)


def senses(row):
    """The senses of all heads, by heads ascending."""
    return tuple([sense_of(row, x) for x in heads(row)])
