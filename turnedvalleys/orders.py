"""How many runs there are."""

from math import factorial
from turnedvalleys.choosing import choose
from turnedvalleys.errors import BadCount, BadNumber
from turnedvalleys.fewest import fewest, unlike_heads
from turnedvalleys.kin import dimension


def shortest_count(one, two):
    """The number of runs of the fewest turns."""
    return factorial(fewest(one, two))


def shortest_at(one, two, k):
    """The run with the index k among those of the fewest turns, in ascending order of tuples."""
    left = list(unlike_heads(one, two))
    many = factorial(len(left))
    if not 0 <= k < many:
        raise BadNumber(k)
    run = []
    while left:
        # So many runs begin with each of the heads that are left.
        many = many // len(left)
        at, k = divmod(k, many)
        run.append(left.pop(at))
    return tuple(run)


def ways_after(ways):
    """The table of W(k, h) for all h, from that of k - 1."""
    f = len(ways) - 1
    found = []
    for h in range(f + 1):
        nearer = h * ways[h - 1] if h > 0 else 0
        farther = (f - h) * ways[h + 1] if h < f else 0
        found.append(nearer + farther)
    return found


def runs_of(one, two, k):
    """The number of runs of k turns that lead from one to two."""
    if not 0 <= k <= 200:
        raise BadCount(k)
    h = fewest(one, two)
    ways = [1] + [0] * dimension(one)
    for _ in range(k):
        ways = ways_after(ways)
    return ways[h]


def ball(row):
    """How many rows of the class are just k fewest turns away, for k from 0 to the dimension."""
    f = dimension(row)
    return tuple([choose(f, k) for k in range(f + 1)])
