"""Rows that may have equal stones, and what may be turned about in them."""

from turnedvalleys.errors import BadSize, BadStone
from turnedvalleys.forms import fits
from turnedvalleys.rows import check_ends, open_ahead, open_behind


class LikeRow:
    """A row of stones, some of which may be equal."""

    def __init__(self, stones, *, ends=0):
        if not 1 <= len(stones) <= 24:
            raise BadSize(len(stones))
        for i, x in enumerate(stones):
            if not fits(x):
                raise BadStone(i)
        check_ends(ends)
        self.stones = stones
        self.ends = ends


def is_closed(stones, ends, i, j):
    """Whether on both sides of the stones from i to j there is a wall or a stone greater than all of them."""
    greatest = max(stones[i:j + 1])
    ahead = stones[i - 1] > greatest if i > 0 else not open_ahead(ends)
    behind = stones[j + 1] > greatest if j + 1 < len(stones) else not open_behind(ends)
    return ahead and behind


def like_stretches(row):
    """The pairs (first place, last place) of all like stretches, ascending."""
    many = len(row.stones)
    return tuple([
        (i, j) for i in range(many) for j in range(i + 1, many) if is_closed(row.stones, row.ends, i, j)
    ])
