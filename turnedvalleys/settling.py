"""Settled rows: the first ones of the classes of like rows."""

from turnedvalleys.errors import Unlike
from turnedvalleys.likeparts import like_parts, parts_of
from turnedvalleys.likerows import LikeRow


def with_tops(parts, top):
    """The stones of the parts with a top between each two."""
    stones = parts[0]
    for part in parts[1:]:
        stones = stones + (top,) + part
    return stones


def settled_parts(parts):
    """The settled stones of parts, which are pairs (stones, ends)."""
    return [settle(stones, ends) for stones, ends in parts]


def settle(stones, ends):
    """The settled stones of a part with these ends."""
    if len(stones) == 0:
        return ()
    parts = settled_parts(parts_of(stones, ends))
    top = max(stones)
    if ends == 3:
        return min(with_tops(parts, top), with_tops(parts[::-1], top))
    return with_tops(parts, top)


def settled(row):
    """The first LikeRow, by tuples' order, of those that come of row."""
    return LikeRow(settle(row.stones, row.ends), ends=row.ends)


def check_like(one, two):
    """Raise Unlike for the first in which like rows differ: ends, stones with how often they stand."""
    if one.ends != two.ends:
        raise Unlike("ends")
    if sorted(one.stones) != sorted(two.stones):
        raise Unlike("stones")


def like_same(one, two):
    """Whether a like run leads from one to two."""
    check_like(one, two)
    return settle(one.stones, one.ends) == settle(two.stones, two.ends)


def size_of(parts, ends):
    """How many rows of stones come of a row with these parts and ends."""
    many = 1
    for part, part_ends in parts:
        if len(part) > 0:
            many = many * size_of(parts_of(part, part_ends), part_ends)
    if ends == 3:
        found = settled_parts(parts)
        if found != found[::-1]:
            many = 2 * many
    return many


def like_size(row):
    """How many like rows come of row, itself included."""
    return size_of(like_parts(row), row.ends)
