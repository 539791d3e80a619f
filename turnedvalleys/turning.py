"""One turn."""

from turnedvalleys.rows import row_like
from turnedvalleys.stretches import stretch_of


def turned_about(stones, first, last):
    """The stones with those at the places first to last in the contrary order."""
    return stones[:first] + stones[first:last + 1][::-1] + stones[last + 1:]


def turned(row, x):
    """The Row with the lot of a free head turned about."""
    first, last = stretch_of(row, x)
    return row_like(row, turned_about(row.stones, first, last))
