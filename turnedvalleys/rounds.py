"""Rounds of turns that are done at once."""

from turnedvalleys.errors import BadRound, BadRun, TooMany
from turnedvalleys.fewest import unlike_heads
from turnedvalleys.forests import above, free_heads
from turnedvalleys.lots import lot
from turnedvalleys.rows import row_like
from turnedvalleys.runs import stones_after


def is_apart(row, x, together):
    """Whether no other one of some heads lies in the lot of x."""
    inside = lot(row, x)
    return not any([y != x and y in inside for y in together])


def is_round(row, free, together):
    """Whether together is a round of a row with these free heads."""
    if len(together) == 0:
        return False
    for i, x in enumerate(together):
        if x not in free or (i > 0 and x <= together[i - 1]):
            return False
    return all([is_apart(row, x, together) for x in together])


def round_turned(row, together):
    """The Row after one round."""
    if not is_round(row, free_heads(row), together):
        raise BadRound(together)
    return row_like(row, stones_after(row, together))


def rounds_walked(row, rounds):
    """The Row after several rounds, one after the other."""
    if len(rounds) > 1000:
        raise TooMany(len(rounds))
    # Turns change neither the free heads nor what lies in their lots, so the rounds stay the same all the way.
    free = free_heads(row)
    for i, together in enumerate(rounds):
        if not is_round(row, free, together):
            raise BadRun(i)
    return row_like(row, stones_after(row, [x for together in rounds for x in together]))


def rounds_run(one, two):
    """The fewest rounds that lead from one to two."""
    unlike = unlike_heads(one, two)
    by_depth = {}
    for x in unlike:
        depth = len([y for y in above(one, x) if y in unlike])
        by_depth.setdefault(depth, []).append(x)
    return tuple([tuple(by_depth[depth]) for depth in range(len(by_depth))])


def fewest_rounds(one, two):
    """The number of rounds that lead from one to two, if no fewer do."""
    return len(rounds_run(one, two))
