"""The lots of stones, and what closes them."""

from turnedvalleys.errors import BadStone
from turnedvalleys.rows import open_ahead, open_behind


def span(stones, x):
    """The pair (first place, last place) of the lot of x among stones, of which x is one."""
    first = stones.index(x)
    last = first
    while first > 0 and stones[first - 1] < x:
        first -= 1
    while last + 1 < len(stones) and stones[last + 1] < x:
        last += 1
    return (first, last)


def span_of(row, x):
    """The pair (first place, last place) of the lot of x."""
    if x not in row:
        raise BadStone(x)
    return span(row.stones, x)


def lot(row, x):
    """The stones of the lot of x as they stand."""
    first, last = span_of(row, x)
    return row.stones[first:last + 1]


def closers(row, x):
    """What stands right before the lot of x and right after it."""
    first, last = span_of(row, x)
    before = "open" if open_ahead(row.ends) else "wall"
    if first > 0:
        before = row.stones[first - 1]
    after = "open" if open_behind(row.ends) else "wall"
    if last + 1 < len(row.stones):
        after = row.stones[last + 1]
    return (before, after)
