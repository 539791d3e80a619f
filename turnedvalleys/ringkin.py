"""Which rings come of one another, by how many turns, and how many classes of them there are."""

from turnedvalleys.classcounts import class_count
from turnedvalleys.errors import BadSize, NotSame, Unlike
from turnedvalleys.fewest import fewest
from turnedvalleys.kin import same
from turnedvalleys.rings import ring_row, top_place


def ring_same(one, two):
    """Whether a run leads from one to two."""
    if one.rule != two.rule:
        raise Unlike("rule")
    if sorted(one.stones) != sorted(two.stones):
        raise Unlike("stones")
    return top_place(one) == top_place(two) and same(ring_row(one), ring_row(two))


def ring_fewest(one, two):
    """The number of turns that lead from one to two, if no fewer do."""
    if not ring_same(one, two):
        raise NotSame(1)
    return fewest(ring_row(one), ring_row(two))


def ring_count(n, *, rule=None):
    """The number of classes of all rings of n given stones, as tuples, with this rule."""
    if not 2 <= n <= 60:
        raise BadSize(n)
    return n * class_count(n - 1, ends=3, rule=rule)
