"""The sides of heads, and where two stones meet."""

from turnedvalleys.errors import BadHead
from turnedvalleys.forests import heads
from turnedvalleys.rows import is_ahead
from turnedvalleys.senses import greatest_beneath


def side_of(row, x):
    """The side of x, which is a head of row."""
    return 0 if is_ahead(row, greatest_beneath(row, x), x) else 1


def side(row, x):
    """0 if the greatest stone of the lot of a head but itself stands ahead of it, 1 if behind."""
    if x not in heads(row):
        raise BadHead(x)
    return side_of(row, x)


def meets(row, x, y):
    """The greatest stone from x to y."""
    first, last = sorted([row.place(x), row.place(y)])
    return max(row.stones[first:last + 1])
