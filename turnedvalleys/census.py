"""How many classes there are of each dimension, with each number of peaks.

Numbers with letters are dicts here: by the pair of the powers of d (the dimension) and of p (the peaks).
"""

from turnedvalleys.choosing import choose
from turnedvalleys.errors import BadSize
from turnedvalleys.rows import check_ends, check_rule, lets

ONE = (0, 0)


def add_product(total, factor, letters, one, two):
    """Add to total a number times letters times one times two."""
    d, p = letters
    for (a, b), many in one.items():
        for (c, e), others in two.items():
            powers = (a + c + d, b + e + p)
            total[powers] = total.get(powers, 0) + factor * many * others


def peak(before, after):
    """The power of p for the greatest stone between so many stones."""
    return 1 if before > 0 and after > 0 else 0


def inner_census(n, rule):
    """The classes of 0 to n stones between two closers."""
    found = [{ONE: 1}, {ONE: 1}]
    for k in range(1, n):
        d, factor = (1, 1) if lets(rule, k + 1) else (0, 2)
        total = {}
        for j in range(1, k + 1):
            add_product(total, factor * choose(k - 1, j - 1), (d, peak(j, k - j)), found[j], found[k - j])
        found.append(total)
    return found


def edge_census(n, inner):
    """The classes of 0 to n stones between a closer and an open end."""
    found = [{ONE: 1}]
    for k in range(n):
        total = {}
        for j in range(k + 1):
            add_product(total, choose(k, j), (0, peak(j, k - j)), found[j], inner[k - j])
        found.append(total)
    return found


def open_census(n, edge):
    """The classes of n stones between two open ends."""
    total = {}
    for j in range(n):
        add_product(total, choose(n - 1, j), (0, peak(j, n - 1 - j)), edge[j], edge[n - 1 - j])
    return total


def census_table(n, ends, rule):
    """The classes of n stones with these ends and this rule."""
    inner = inner_census(n, rule)
    if ends == 3:
        return inner[n]
    if ends == 0:
        # Of the greatest stone, at most n - 1 stones stand on one side.
        return open_census(n, edge_census(n - 1, inner))
    return edge_census(n, inner)[n]


def census(n, *, ends=0, rule=None):
    """The triples (dimension, peaks, how many classes), ascending."""
    if not 1 <= n <= 24:
        raise BadSize(n)
    check_ends(ends)
    check_rule(rule)
    found = census_table(n, ends, rule)
    return tuple(sorted([(d, p, many) for (d, p), many in found.items()]))
