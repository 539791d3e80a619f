"""Rows of stones, with their ends and their rule."""

from turnedvalleys.errors import BadEnds, BadRule, BadSize, BadStone
from turnedvalleys.forms import fits, is_number


def check_stones(stones, fewest):
    """Raise BadSize or BadStone unless these are different stones, so many or more, and at most 40."""
    if not fewest <= len(stones) <= 40:
        raise BadSize(len(stones))
    seen = set()
    for i, x in enumerate(stones):
        if not fits(x) or x in seen:
            raise BadStone(i)
        seen.add(x)


def check_ends(ends):
    """Raise BadEnds unless ends is 0 to 3."""
    if ends not in (0, 1, 2, 3):
        raise BadEnds(ends)


def check_rule(rule):
    """Raise BadRule unless rule is None or lengths from 2 to 40, strictly ascending."""
    if rule is None:
        return
    before = 1
    for i, length in enumerate(rule):
        if not before < length <= 40:
            raise BadRule(i)
        before = length


def open_ahead(ends):
    """Whether there is no wall before the first stone."""
    return ends in (0, 2)


def open_behind(ends):
    """Whether there is no wall after the last stone."""
    return ends in (0, 1)


def lets(rule, length):
    """Whether a rule lets a length."""
    return rule is None or length in rule


class Row:
    """A row of different stones."""

    def __init__(self, stones, *, ends=0, rule=None):
        check_stones(stones, 1)
        check_ends(ends)
        check_rule(rule)
        self.stones = stones
        self.ends = ends
        self.rule = rule

    def __contains__(self, x):
        return x in self.stones

    def __iter__(self):
        return iter(self.stones)

    def place(self, x):
        """The place of a stone."""
        if x not in self.stones:
            raise BadStone(x)
        return self.stones.index(x)


def row_like(row, stones):
    """The Row of these stones with the ends and the rule of row."""
    return Row(stones, ends=row.ends, rule=row.rule)


def is_stone(row, value):
    """Whether a value of any kind is a stone of row."""
    return is_number(value) and value in row


def is_ahead(row, x, y):
    """Whether the stone x stands ahead of the stone y."""
    return row.place(x) < row.place(y)
