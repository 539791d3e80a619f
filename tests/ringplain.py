"""Slow and plain ways to the same answers for rings, by the definitions alone, for the tests to compare with.

Nothing here asks the package but for making a Ring.
"""

from itertools import permutations

from tests import plain
from turnedvalleys.rings import Ring


def rings(most, rules=(None,), least=2):
    """All Rings of the stones 0 to n - 1, for n from least to most, with each of the rules."""
    for stones in plain.orders(most, least):
        for rule in rules:
            yield Ring(stones, rule=rule)


def whole(ring):
    """What a Ring is."""
    return (ring.stones, ring.rule)


def like(ring, stones):
    """The Ring of these stones with the rule of ring."""
    return Ring(stones, rule=ring.rule)


def places(ring, i, length):
    """The places of a stretch, one after the other, round the end of the tuple if need be."""
    return [(i + k) % len(ring.stones) for k in range(length)]


def stretches(ring):
    """All stretches that may be turned about, by a walk round the ring from each place."""
    n = len(ring.stones)
    found = []
    for i in range(n):
        for length in range(2, n):
            inside = [ring.stones[at] for at in places(ring, i, length)]
            beside = (ring.stones[(i - 1) % n], ring.stones[(i + length) % n])
            if plain.lets(ring.rule, length) and min(beside) > max(inside):
                found.append((i, length))
    return tuple(found)


def turned(ring, i, length):
    """The Ring with a stretch turned about."""
    stones = list(ring.stones)
    at = places(ring, i, length)
    for one, two in zip(at, reversed(at)):
        stones[one] = ring.stones[two]
    return like(ring, tuple(stones))


def stretch_of(ring, x):
    """The stretch that may be turned about of which x is the greatest stone, or None."""
    found = [(i, length) for i, length in stretches(ring)
             if max(ring.stones[at] for at in places(ring, i, length)) == x]
    return found[0] if found else None


def distances(ring):
    """The stones of each Ring that comes of ring, with the fewest turns from ring."""
    return plain.reached(ring, lambda one: [turned(one, i, length) for i, length in stretches(one)])


def classes(n, rule):
    """Each class of Rings of the stones 0 to n - 1 once, as what distances gives for a ring of it."""
    seen = set()
    for stones in permutations(range(n)):
        if stones not in seen:
            found = distances(Ring(stones, rule=rule))
            seen.update(found)
            yield found
