"""The zigzag numbers."""

from turnedvalleys.choosing import choose
from turnedvalleys.errors import BadCount


def zigzag(k):
    """The number E(k)."""
    if not 0 <= k <= 200:
        raise BadCount(k)
    found = [1, 1]
    for n in range(1, k):
        found.append(sum([choose(n - 1, j - 1) * found[j] * found[n - j] for j in range(1, n + 1)]))
    return found[k]
