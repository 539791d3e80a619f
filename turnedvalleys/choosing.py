"""Ways to choose things, and subsets with their numbers."""

from math import comb
from turnedvalleys.errors import BadCount, BadNumber, BadSubset


def choose(n, k):
    """The number of ways to choose k things out of n."""
    if not 0 <= n <= 200:
        raise BadCount(n)
    if not 0 <= k <= n:
        return 0
    return comb(n, k)


def check_size(size):
    """Raise BadCount unless size is a size that subsets may have."""
    if not 0 <= size <= 60:
        raise BadCount(size)


def subset_number(size, places):
    """The index of a subset among all of as many numbers, in the order of tuples."""
    check_size(size)
    many = len(places)
    before = -1
    for i, place in enumerate(places):
        if not before < place < size:
            raise BadSubset(i)
        before = place
    number = 0
    before = -1
    for i, place in enumerate(places):
        for v in range(before + 1, place):
            number += choose(size - 1 - v, many - 1 - i)
        before = place
    return number


def subset_at(size, many, number):
    """The subset of many numbers with that index."""
    check_size(size)
    if not 0 <= many <= size:
        raise BadCount(many)
    if not 0 <= number < choose(size, many):
        raise BadNumber(number)
    places = []
    left = number
    for v in range(size):
        if len(places) == many:
            break
        # So many subsets go on with v here; all of them stand ahead of those that leave v out.
        with_v = choose(size - 1 - v, many - 1 - len(places))
        if left < with_v:
            places.append(v)
        else:
            left -= with_v
    return tuple(places)
