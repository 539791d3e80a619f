"""Wishes: which orders of stones can be had at once."""

from turnedvalleys.errors import BadWish, TooMany
from turnedvalleys.kin import dimension
from turnedvalleys.leads import leaders
from turnedvalleys.rows import is_ahead, is_stone
from turnedvalleys.sides import meets


def is_wish(row, value):
    """Whether a value of any kind is a pair of two different stones of row."""
    if not isinstance(value, tuple) or len(value) != 2:
        return False
    x, y = value
    return is_stone(row, x) and is_stone(row, y) and x != y


def check_wishes(row, wishes):
    """Raise TooMany or BadWish unless wishes are at most 200 wishes of row."""
    if len(wishes) > 200:
        raise TooMany(len(wishes))
    for i, wish in enumerate(wishes):
        if not is_wish(row, wish):
            raise BadWish(i)


def asks_led(row, led, wishes):
    """What wishes ask of a change of row whose heads have these leaders."""
    return [(led.get(meets(row, x, y)), 0 if is_ahead(row, x, y) else 1) for x, y in wishes]


def asks(row, wishes):
    """What each wish asks of a change of row: the pair of a free head m and of the bit e(m).

    Where m is None, all rows of the class keep the wish if the bit is 0, and none does if it is 1.
    """
    return asks_led(row, leaders(row), wishes)


def clash_of(asked):
    """None, or the indexes of the first of what is asked that can't be had with what was asked before."""
    first = {}
    for i, (m, bit) in enumerate(asked):
        if m is None:
            if bit == 1:
                return (i,)
        else:
            j = first.setdefault(m, i)
            if asked[j][1] != bit:
                return (j, i)
    return None


def count_kept(row, wishes):
    """How many rows of the class keep all wishes, of which there may be any number."""
    asked = asks(row, wishes)
    if clash_of(asked) is not None:
        return 0
    return 1 << (dimension(row) - len({m for m, bit in asked if m is not None}))


def wishes_right(row, wishes):
    """Whether wishes is a tuple of at most 200 wishes of row and row keeps all of them."""
    if not isinstance(wishes, tuple) or len(wishes) > 200:
        return False
    for wish in wishes:
        if not is_wish(row, wish) or not is_ahead(row, wish[0], wish[1]):
            return False
    return True


def wishes_count(row, wishes):
    """How many rows of the class keep all wishes."""
    check_wishes(row, wishes)
    return count_kept(row, wishes)


def wishes_clash(row, wishes):
    """None if some row of the class keeps all wishes, otherwise the one or two indexes of the first that clash."""
    check_wishes(row, wishes)
    return clash_of(asks(row, wishes))
