"""The numbers of classes by the recurrences of the document, word by word, and rules for them."""

from functools import lru_cache
from math import comb

EVERY = tuple(range(2, 41))
BAD_RULES = (((1,), 0), ((0, 5), 0), ((41,), 0), ((-2,), 0), ((2, 2), 1), ((5, 3), 1), ((2, 40, 41), 2), ((3, 4, 1), 2),
             ((2, 10 ** 30), 1))


@lru_cache(maxsize=None)
def closed(n, rule):
    """V(n)."""
    if n < 2:
        return 1
    t = 1 if rule is None or n in rule else 2
    return t * sum(comb(n - 2, j - 1) * closed(j, rule) * closed(n - 1 - j, rule) for j in range(1, n))


@lru_cache(maxsize=None)
def half(n, rule):
    """B(n)."""
    return 1 if n == 0 else sum(comb(n - 1, j) * half(j, rule) * closed(n - 1 - j, rule) for j in range(n))


def counted(n, ends, rule):
    """The number of classes, by the words of the document."""
    if ends == 3:
        return closed(n, rule)
    if ends in (1, 2):
        return half(n, rule)
    return sum(comb(n - 1, j) * half(j, rule) * half(n - 1 - j, rule) for j in range(n))
