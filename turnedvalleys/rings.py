"""Rings of stones, and turns in them."""

from turnedvalleys.rows import Row, check_rule, check_stones, lets
from turnedvalleys.runs import check_run, stones_after
from turnedvalleys.turning import turned


class Ring:
    """A ring of different stones: the last one stands beside the first one."""

    def __init__(self, stones, *, rule=None):
        check_stones(stones, 2)
        check_rule(rule)
        self.stones = stones
        self.rule = rule


def from_place(stones, place):
    """The stones of a ring from a place onward round."""
    return stones[place:] + stones[:place]


def is_ring_stretch(ring, i, length):
    """Whether the stones from the place i onward, so many, may be turned about."""
    stones = from_place(ring.stones, i)
    greatest = max(stones[:length])
    return lets(ring.rule, length) and stones[length] > greatest and stones[-1] > greatest


def ring_stretches(ring):
    """The pairs (place, length) of all ring stretches that may be turned about, ascending."""
    many = len(ring.stones)
    return tuple([(i, length) for i in range(many) for length in range(2, many) if is_ring_stretch(ring, i, length)])


def top_place(ring):
    """The place of the greatest stone."""
    return ring.stones.index(max(ring.stones))


def ring_row(ring):
    """The Row of the stones behind the greatest one, onward round to it."""
    return Row(from_place(ring.stones, top_place(ring))[1:], ends=3, rule=ring.rule)


def with_row(ring, stones):
    """The Ring with other stones behind the greatest one, which keeps its place."""
    place = top_place(ring)
    return Ring(from_place((ring.stones[place],) + stones, len(ring.stones) - place), rule=ring.rule)


def ring_turned(ring, x):
    """The Ring with the lot of a free head of its row turned about."""
    return with_row(ring, turned(ring_row(ring), x).stones)


def ring_walked(ring, run):
    """The Ring that a run of its row leads to."""
    row = ring_row(ring)
    check_run(row, run)
    return with_row(ring, stones_after(row, run))
