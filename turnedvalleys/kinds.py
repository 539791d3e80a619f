"""What is counted in a row."""

from turnedvalleys.errors import BadKind
from turnedvalleys.rows import is_ahead, is_stone


def is_kind(row, value):
    """Whether a value of any kind is a kind for row."""
    if not isinstance(value, tuple):
        return False
    if len(value) == 1:
        return value[0] in ("falls", "wrong")
    if len(value) == 2:
        return value[0] == "place" and is_stone(row, value[1])
    if len(value) == 3:
        return value[0] == "ahead" and is_stone(row, value[1]) and is_stone(row, value[2]) and value[1] != value[2]
    return False


def check_kind(row, kind):
    """Raise BadKind unless kind is one for row."""
    if not is_kind(row, kind):
        raise BadKind(kind)


def falls(stones):
    """At how many places a stone is followed by a lesser one."""
    return len([i for i in range(1, len(stones)) if stones[i - 1] > stones[i]])


def wrong_pairs(stones):
    """The number of pairs of stones of which the greater one stands ahead of the lesser one."""
    return sum([len([y for y in stones[i + 1:] if y < x]) for i, x in enumerate(stones)])


def measure(row, kind):
    """What is counted in the row."""
    check_kind(row, kind)
    if kind[0] == "falls":
        return falls(row.stones)
    if kind[0] == "wrong":
        return wrong_pairs(row.stones)
    if kind[0] == "place":
        return row.place(kind[1])
    return 1 if is_ahead(row, kind[1], kind[2]) else 0
