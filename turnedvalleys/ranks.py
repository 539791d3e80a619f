"""The numbers of rows in their classes."""

from turnedvalleys.begins import begins
from turnedvalleys.errors import BadNumber, TooLarge
from turnedvalleys.kin import class_size
from turnedvalleys.rows import row_like


def check_small(row):
    """Raise TooLarge unless row has at most 16 stones."""
    if len(row.stones) > 16:
        raise TooLarge(len(row.stones))


def number_of(row):
    """How many rows of the class are less, as tuples of stones."""
    check_small(row)
    number = 0
    for i, x in enumerate(row.stones):
        # Each lesser row has the same stones as row up to some place, and a lesser one there.
        number += sum([begins(row, row.stones[:i] + (y,)) for y in row.stones[i + 1:] if y < x])
    return number


def row_at(row, k):
    """The Row of the class with the number k."""
    check_small(row)
    if not 0 <= k < class_size(row):
        raise BadNumber(k)
    prefix = ()
    while len(prefix) < len(row.stones):
        for x in sorted([y for y in row if y not in prefix]):
            many = begins(row, prefix + (x,))
            if k < many:
                break
            k -= many
        prefix = prefix + (x,)
    return row_like(row, prefix)
