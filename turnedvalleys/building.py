"""The row of a shape and of senses."""

from turnedvalleys.errors import BadSenses, BadShape
from turnedvalleys.rows import Row, check_ends, check_rule
from turnedvalleys.shapes import shape_heads, shape_right


def check_bits(bits, many):
    """Raise BadSenses unless bits are so many numbers 0 or 1."""
    if len(bits) != many:
        raise BadSenses(len(bits))
    for i, bit in enumerate(bits):
        if bit not in (0, 1):
            raise BadSenses(i)


def built(triples, bit_of):
    """The stones of the row with a right shape, whose heads have the senses bit_of."""
    top = triples[-1][0]
    stones = [top]
    # Whether a stone stands ahead of its parent; the greatest stone counts as if it did.
    ahead = {top: True}
    # The side that the greatest stone beneath a head has taken.
    taken = {}
    for x, p, s in reversed(triples[:-1]):
        if s != -1:
            ahead[x] = s == 0
        elif p in taken:
            ahead[x] = not taken[p]
        else:
            ahead[x] = ahead[p] if bit_of[p] == 0 else not ahead[p]
            taken[p] = ahead[x]
        # No stone of the lot of p that is greater than x stands on that side, so x goes right beside p.
        at = stones.index(p)
        stones.insert(at if ahead[x] else at + 1, x)
    return tuple(stones)


def row_of(triples, bits, *, ends=0, rule=None):
    """The one Row with that shape whose heads have these senses, by heads ascending."""
    check_ends(ends)
    check_rule(rule)
    if not shape_right(triples, ends):
        raise BadShape(0)
    owners = shape_heads(triples)
    check_bits(bits, len(owners))
    return Row(built(triples, dict(zip(owners, bits))), ends=ends, rule=rule)
