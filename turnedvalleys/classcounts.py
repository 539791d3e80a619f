"""How many classes there are."""

from turnedvalleys.choosing import choose
from turnedvalleys.errors import BadSize
from turnedvalleys.rows import check_ends, check_rule, lets


def inner_counts(n, rule):
    """The numbers of classes of 0 to n stones between two closers."""
    found = [1, 1]
    for k in range(1, n):
        many = sum([choose(k - 1, j - 1) * found[j] * found[k - j] for j in range(1, k + 1)])
        found.append(many if lets(rule, k + 1) else 2 * many)
    return found


def edge_counts(n, inner):
    """The numbers of classes of 0 to n stones between a closer and an open end."""
    found = [1]
    for k in range(n):
        found.append(sum([choose(k, j) * found[j] * inner[k - j] for j in range(k + 1)]))
    return found


def open_count(n, edge):
    """The number of classes of n stones between two open ends."""
    return sum([choose(n - 1, j) * edge[j] * edge[n - 1 - j] for j in range(n)])


def class_count(n, *, ends=0, rule=None):
    """The number of classes of all rows of n given stones with these ends and this rule."""
    if not 1 <= n <= 60:
        raise BadSize(n)
    check_ends(ends)
    check_rule(rule)
    inner = inner_counts(n, rule)
    if ends == 3:
        return inner[n]
    edge = edge_counts(n, inner)
    return open_count(n, edge) if ends == 0 else edge[n]
