"""Which rows come of one another."""

from turnedvalleys.errors import NotSame, Unlike
from turnedvalleys.forests import free_heads, held_heads
from turnedvalleys.runs import walked
from turnedvalleys.senses import sense_of
from turnedvalleys.shapes import shape


def check_alike(one, two):
    """Raise Unlike for the first in which the rows differ: ends, rule, stones."""
    if one.ends != two.ends:
        raise Unlike("ends")
    if one.rule != two.rule:
        raise Unlike("rule")
    if sorted(one.stones) != sorted(two.stones):
        raise Unlike("stones")


def same(one, two):
    """Whether a run leads from one to two."""
    check_alike(one, two)
    if shape(one) != shape(two):
        return False
    return all([sense_of(one, x) == sense_of(two, x) for x in held_heads(one)])


def check_class(rows):
    """Raise Unlike or NotSame unless all rows are of the class of the first one."""
    for i in range(1, len(rows)):
        if not same(rows[0], rows[i]):
            raise NotSame(i)


def dimension(row):
    """The number of free heads."""
    return len(free_heads(row))


def class_size(row):
    """The number of rows of the class."""
    return 1 << dimension(row)


def row_with(row, bit_of):
    """The Row of the class whose free heads have the senses bit_of."""
    return walked(row, tuple([x for x in free_heads(row) if sense_of(row, x) != bit_of[x]]))


def normal(row):
    """The Row of the class whose free heads all have the sense 0."""
    return row_with(row, {x: 0 for x in free_heads(row)})
