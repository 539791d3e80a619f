"""Tours through all rows of a class."""

from turnedvalleys.errors import BadNumber, TooLarge
from turnedvalleys.fewest import unlike_heads
from turnedvalleys.forests import free_heads
from turnedvalleys.kin import class_size, dimension
from turnedvalleys.runs import walked


def twos_in(k):
    """How often 2 divides k, which is not 0."""
    many = 0
    while k % 2 == 0:
        k = k // 2
        many += 1
    return many


def tour(row):
    """The run that meets each row of the class just once."""
    free = free_heads(row)
    if len(free) > 12:
        raise TooLarge(len(free))
    return tuple([free[twos_in(k)] for k in range(1, 1 << len(free))])


def digit(k, t):
    """The binary digit of k at 2 ** t."""
    return (k >> t) & 1


def tour_row(row, k):
    """The Row after the first k turns of the tour."""
    if not 0 <= k < class_size(row):
        raise BadNumber(k)
    return walked(row, tuple([x for t, x in enumerate(free_heads(row)) if digit(k, t) != digit(k, t + 1)]))


def tour_number(row, other):
    """How many turns of the tour lead to other."""
    unlike = unlike_heads(row, other)
    free = free_heads(row)
    k = 0
    for t in reversed(range(dimension(row))):
        # The digit above t is the last one of k so far; t has the other one if its head is unlike.
        k = 2 * k + ((k & 1) ^ (1 if free[t] in unlike else 0))
    return k
