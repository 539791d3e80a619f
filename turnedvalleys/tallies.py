"""How many rows of a class have which value."""

from turnedvalleys.forests import free_heads
from turnedvalleys.kinds import check_kind, measure
from turnedvalleys.leads import leaders
from turnedvalleys.lots import lot
from turnedvalleys.rows import is_ahead
from turnedvalleys.senses import greatest_beneath
from turnedvalleys.sides import meets, side_of


def falls_added(first, second):
    """What a head adds to the falls with the side 0 and with the side 1."""
    return (1, 1) if len(second) > 0 else (0, 1)


def wrong_added(first, second):
    """What a head adds to the wrong pairs with the side 0 and with the side 1."""
    g, k = len(first), len(second)
    u = len([x for x in first for y in second if y < x])
    return (k + u, g + g * k - u)


def place_added(first, second, h, x):
    """What a head h adds to the place of x with the side 0 and with the side 1."""
    if x == h:
        return (len(first), len(second))
    if x in first:
        return (0, len(second) + 1)
    if x in second:
        return (len(first) + 1, 0)
    return (0, 0)


def ahead_added(row, h, x, y):
    """What a head h adds to whether x stands ahead of y with the side 0 and with the side 1."""
    if meets(row, x, y) != h:
        return (0, 0)
    # With its side in the row the two stand as they do, with the other one the other way about.
    return (1, 0) if is_ahead(row, x, y) == (side_of(row, h) == 0) else (0, 1)


def added(row, kind, h):
    """What a head h adds to the value with the side 0 and with the side 1."""
    first = lot(row, greatest_beneath(row, h))
    second = [x for x in lot(row, h) if x != h and x not in first]
    if kind[0] == "falls":
        return falls_added(first, second)
    if kind[0] == "wrong":
        return wrong_added(first, second)
    if kind[0] == "place":
        return place_added(first, second, h, kind[1])
    return ahead_added(row, h, kind[1], kind[2])


def delta_of(row, kind):
    """For each free head, by how much the value grows if the sides of just those heads change that it leads."""
    found = {m: 0 for m in free_heads(row)}
    led = leaders(row)
    for h, m in led.items():
        if m is not None:
            now = side_of(row, h)
            sides = added(row, kind, h)
            found[m] += sides[1 - now] - sides[now]
    return found


def deltas(row, kind):
    """By how much the value grows with what each free head leads, by free heads ascending."""
    check_kind(row, kind)
    found = delta_of(row, kind)
    return tuple([found[m] for m in free_heads(row)])


def tally(row, kind):
    """The pairs (value, how many rows of the class have it), ascending by value."""
    ways = {measure(row, kind): 1}
    for delta in deltas(row, kind):
        found = dict(ways)
        for value, many in ways.items():
            found[value + delta] = found.get(value + delta, 0) + many
        ways = found
    return tuple(sorted(ways.items()))


def spread(row, kind):
    """The least and the greatest value in the class."""
    value = measure(row, kind)
    grown = deltas(row, kind)
    return (value + sum([min(delta, 0) for delta in grown]), value + sum([max(delta, 0) for delta in grown]))
