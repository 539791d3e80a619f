"""The nearest and the first row with wishes."""

from turnedvalleys.errors import NotKept
from turnedvalleys.leads import leaders, nexts
from turnedvalleys.rows import row_like
from turnedvalleys.runs import walked
from turnedvalleys.wishes import asks, asks_led, check_wishes, clash_of

# Stands for an endless cost; no cost that can be had is near to it.
ENDLESS = 1000000


def bits_asked(row, wishes):
    """The bit that the wishes ask of each free head of which they ask one; and 0 for None."""
    check_wishes(row, wishes)
    asked = asks(row, wishes)
    clash = clash_of(asked)
    if clash is not None:
        raise NotKept(clash[-1])
    bits = {m: bit for m, bit in asked}
    bits[None] = 0
    return bits


def cost_beneath(costs, bit):
    """The fewest turns of a free head and of those beneath it, where the next of it has this bit."""
    return min(costs[bit], 1 + costs[1 - bit])


def all_costs(next_of, bits):
    """The fewest turns among the free heads beneath each one, for its bit 0 and for its bit 1."""
    costs = {m: [0, 0] for m in next_of}
    costs[None] = [0, 0]
    # By free heads ascending, so that all beneath a head are added before it is added to its next.
    for m in next_of:
        if m in bits:
            costs[m][1 - bits[m]] = ENDLESS
        above = costs[next_of[m]]
        for e in (0, 1):
            above[e] += cost_beneath(costs[m], e)
    return costs


def nearest_run(row, wishes):
    """A run of the fewest turns to a row of the class that keeps all wishes."""
    bits = bits_asked(row, wishes)
    next_of = nexts(row)
    costs = all_costs(next_of, bits)
    chosen = {None: 0}
    run = []
    for m in reversed(list(next_of)):
        e = chosen[next_of[m]]
        if costs[m][e] > 1 + costs[m][1 - e]:
            e = 1 - e
            run.append(m)
        chosen[m] = e
    return tuple(run)


def wishes_fewest(row, wishes):
    """The fewest turns to a row of the class that keeps all wishes."""
    return len(nearest_run(row, wishes))


def wishes_row(row, wishes):
    """A Row of the class that keeps all wishes and is as near as can be."""
    return walked(row, nearest_run(row, wishes))


def bits_with(bits, asked):
    """The bits with those that are asked, or None if they clash."""
    found = dict(bits)
    for m, bit in asked:
        if found.setdefault(m, bit) != bit:
            return None
    return found


def stone_next(row, led, bits, left):
    """The least of the stones left that may stand ahead of all others left, and the bits with what that asks."""
    for x in left:
        found = bits_with(bits, asks_led(row, led, [(x, y) for y in left if y != x]))
        if found is not None:
            return (x, found)


def wishes_first(row, wishes):
    """The first Row of the class that keeps all wishes, in ascending order of the tuples of stones."""
    bits = bits_asked(row, wishes)
    led = leaders(row)
    left = sorted(row.stones)
    stones = []
    while left:
        x, bits = stone_next(row, led, bits, left)
        left.remove(x)
        stones.append(x)
    return row_like(row, tuple(stones))
