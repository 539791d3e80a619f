"""Rows between rows, middles, meetings and hulls."""

from turnedvalleys.errors import BadRows, BadWeights
from turnedvalleys.forests import free_heads
from turnedvalleys.kin import check_class, row_with
from turnedvalleys.senses import sense_of


def check_rows(rows):
    """Raise BadRows unless there are 1 to 100 rows."""
    if not 1 <= len(rows) <= 100:
        raise BadRows(len(rows))


def check_weights(weights, many):
    """Raise BadWeights unless weights are so many numbers from 1 to 10 ** 6."""
    if len(weights) != many:
        raise BadWeights(len(weights))
    for i, weight in enumerate(weights):
        if not 1 <= weight <= 10 ** 6:
            raise BadWeights(i)


def differs(rows, x):
    """Whether some rows of one class have different senses at the free head x."""
    first = sense_of(rows[0], x)
    return any([sense_of(row, x) != first for row in rows])


def is_inside(rows, row):
    """Whether row has the common sense at each free head at which all rows agree."""
    agreed = [x for x in free_heads(row) if not differs(rows, x)]
    return not any([differs((rows[0], row), x) for x in agreed])


def between(one, mid, two):
    """Whether mid stands on a way of the fewest turns from one to two."""
    check_class((one, mid, two))
    return is_inside((one, two), mid)


def middle(one, two, three):
    """The Row that has at each free head the sense that at least two of the three rows have."""
    rows = (one, two, three)
    check_class(rows)
    # The half of 0 or 1 is 0, the half of 2 or 3 is 1.
    return row_with(one, {x: sum([sense_of(row, x) for row in rows]) // 2 for x in free_heads(one)})


def weight_with(rows, weights, x, bit):
    """The sum of the weights of the rows that have this sense at x."""
    return sum([weight for row, weight in zip(rows, weights) if sense_of(row, x) == bit])


def votes(rows, weights):
    """For each free head, the weight of the rows with the sense 0 there and that of those with the sense 1."""
    check_rows(rows)
    check_weights(weights, len(rows))
    check_class(rows)
    return {x: (weight_with(rows, weights, x, 0), weight_with(rows, weights, x, 1)) for x in free_heads(rows[0])}


def meeting_sum(rows, weights):
    """The least sum, over a row of the class, of weight * fewest for all rows."""
    found = votes(rows, weights)
    return sum([min(zero, one) for zero, one in found.values()])


def meeting_row(rows, weights):
    """The Row with the least sum that has the sense 0 wherever both senses weigh the same."""
    found = votes(rows, weights)
    return row_with(rows[0], {x: 0 if zero >= one else 1 for x, (zero, one) in found.items()})


def meeting_many(rows, weights):
    """The number of rows with the least sum."""
    found = votes(rows, weights)
    return 1 << len([zero for zero, one in found.values() if zero == one])


def hull_size(rows):
    """The number of rows of the hull of some rows."""
    check_rows(rows)
    check_class(rows)
    return 1 << len([x for x in free_heads(rows[0]) if differs(rows, x)])


def in_hull(rows, row):
    """Whether row is in the hull of some rows."""
    check_rows(rows)
    check_class((*rows, row))
    return is_inside(rows, row)
