"""A new least stone in a row."""

from turnedvalleys.errors import BadPlace, BadStone, TooMany
from turnedvalleys.forests import children, is_record
from turnedvalleys.forms import fits, is_number
from turnedvalleys.rows import row_like


def put_in(row, x, place):
    """The Row with a stone x, which row has not, put in so that it has that place."""
    if not 0 <= place <= len(row.stones):
        raise BadPlace(place)
    if len(row.stones) == 40:
        raise TooMany(41)
    return row_like(row, row.stones[:place] + (x,) + row.stones[place:])


def with_least(row, x, place):
    """The Row with a stone that is less than all others put in so that it has that place."""
    if not is_number(x) or not fits(x) or x >= min(row.stones):
        raise BadStone(x)
    return put_in(row, x, place)


def empty_sides(row, x):
    """On how many sides of x a new least stone could come to be the first stone beneath x."""
    without = len([c for c in children(row, x) if c is None])
    # Both sides of an inner stone give one class, for the turn of its lot leads from one side to the other.
    return without if is_record(row, x) else min(without, 1)


def growths(row):
    """The number of classes, by the rule None, of the rows with a new least stone at any place."""
    return sum([empty_sides(row, x) for x in row])
