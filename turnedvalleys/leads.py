"""The leaders of heads, and how two stones stand in all rows of a class."""

from turnedvalleys.errors import BadHead, BadPair
from turnedvalleys.forests import free_heads, heads, parent
from turnedvalleys.rows import is_ahead
from turnedvalleys.sides import meets


def leaders(row):
    """The leader of each head, or None."""
    free = free_heads(row)
    found = {}
    # From the greatest head down, so that the leader of a parent is there before it is asked for.
    for x in reversed(heads(row)):
        found[x] = x if x in free else found.get(parent(row, x))
    return found


def nexts(row):
    """The next of each free head, or None, by free heads ascending."""
    led = leaders(row)
    return {m: led.get(parent(row, m)) for m in free_heads(row)}


def leader(row, x):
    """The leader of a head, or None."""
    if x not in heads(row):
        raise BadHead(x)
    return leaders(row)[x]


def order_of(row, x, y):
    """How two stones stand in the rows of the class: "either", "ahead" or "behind"."""
    h = meets(row, x, y)
    if x == y:
        raise BadPair((x, y))
    if leaders(row).get(h) is not None:
        return "either"
    return "ahead" if is_ahead(row, x, y) else "behind"
