"""The stretches that may be turned about."""

from turnedvalleys.errors import BadStretch, BadTurn
from turnedvalleys.forests import free_heads
from turnedvalleys.lots import span_of


def stretches(row):
    """The pairs (first place, last place) of all stretches that may be turned about, ascending."""
    return tuple(sorted([span_of(row, x) for x in free_heads(row)]))


def stretch_of(row, x):
    """The pair (first place, last place) of the lot of a free head."""
    if x not in free_heads(row):
        raise BadTurn(x)
    return span_of(row, x)


def head_at(row, i, j):
    """The greatest stone of a stretch that may be turned about."""
    if (i, j) not in stretches(row):
        raise BadStretch((i, j))
    return max(row.stones[i:j + 1])
