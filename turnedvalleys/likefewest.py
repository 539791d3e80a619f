"""Like runs of the fewest turns."""

from turnedvalleys.errors import NotSame
from turnedvalleys.likeparts import parts_of
from turnedvalleys.settling import check_like


def parts_run(one, two, ends):
    """A shortest like run from the stones one to two that turns no more than parts of them, or None."""
    first, second = parts_of(one, ends), parts_of(two, ends)
    if max(one) != max(two) or len(first) != len(second):
        return None
    run = ()
    at = 0
    for k, (part, part_ends) in enumerate(first):
        found = shortest(part, second[k][0], part_ends)
        if found is None:
            return None
        run = run + tuple([(at + i, at + j) for i, j in found])
        at += len(part) + 1
    return run


def shortest(one, two, ends):
    """A shortest like run from the stones one to two, which stand alone with these ends, or None."""
    if len(one) != len(two):
        return None
    if one == two:
        return ()
    run = parts_run(one, two, ends)
    if ends == 3:
        rest = parts_run(one[::-1], two, ends)
        if rest is not None and (run is None or 1 + len(rest) < len(run)):
            run = ((0, len(one) - 1),) + rest
    return run


def like_run(one, two):
    """Some like run of the fewest turns from one to two."""
    check_like(one, two)
    run = shortest(one.stones, two.stones, one.ends)
    if run is None:
        raise NotSame(1)
    return run


def like_fewest(one, two):
    """The fewest turns of a like run from one to two."""
    return len(like_run(one, two))
