"""Slow and plain ways to the same answers for like rows, by the definitions alone, for the tests to compare with.

Nothing here asks the package but for making a LikeRow.
"""

from itertools import product

from tests import plain
from turnedvalleys.likerows import LikeRow


def like_rows(most, kinds=3, least=1):
    """All LikeRows of few stones, each one of 0 to kinds - 1, with each of the four ends."""
    for n in range(least, most + 1):
        for stones in product(range(kinds), repeat=n):
            for ends in plain.ENDS:
                yield LikeRow(stones, ends=ends)


def whole(row):
    """What a LikeRow is."""
    return (row.stones, row.ends)


def stretches(row):
    """All like stretches, by a look at all pairs."""
    n = len(row.stones)
    return tuple((i, j) for i in range(n) for j in range(i + 1, n)
                 if plain.closes(plain.before(row, i), row.stones[i:j + 1])
                 and plain.closes(plain.after(row, j), row.stones[i:j + 1]))


def turned(row, i, j):
    """The LikeRow with the stones from i to j in the contrary order."""
    stones = list(row.stones)
    stones[i:j + 1] = reversed(stones[i:j + 1])
    return LikeRow(tuple(stones), ends=row.ends)


def distances(row):
    """The stones of each LikeRow that comes of row, with the fewest turns from row."""
    return plain.reached(row, lambda one: [turned(one, i, j) for i, j in stretches(one)])


def classes(orders, ends):
    """Each class of like rows with these ends among some orders once, as what distances gives for a row of it."""
    seen = set()
    for stones in orders:
        if stones not in seen:
            found = distances(LikeRow(stones, ends=ends))
            seen.update(found)
            yield found
