"""Two rows joined by a stone greater than all of them."""

from turnedvalleys.errors import BadEnds, BadStone, TooMany, Unlike
from turnedvalleys.forms import fits, is_number
from turnedvalleys.rows import Row, open_ahead, open_behind


def check_top(one, top, two):
    """Raise BadStone unless top may stand as a stone above all stones of both rows."""
    if not is_number(top) or not fits(top) or top <= max(one.stones) or top <= max(two.stones):
        raise BadStone(top)


def joined(one, top, two):
    """The Row of the stones of one, then top, then the stones of two."""
    if open_behind(one.ends):
        raise BadEnds(one.ends)
    if open_ahead(two.ends):
        raise BadEnds(two.ends)
    check_top(one, top, two)
    if one.rule != two.rule:
        raise Unlike("rule")
    if any([x in two for x in one]):
        raise Unlike("stones")
    stones = one.stones + (top,) + two.stones
    if len(stones) > 40:
        raise TooMany(len(stones))
    ends = (0 if open_ahead(one.ends) else 1) + (0 if open_behind(two.ends) else 2)
    return Row(stones, ends=ends, rule=one.rule)
