"""The nearest row of a class with a value."""

from turnedvalleys.errors import TooLarge
from turnedvalleys.kinds import check_kind, measure
from turnedvalleys.leads import nexts
from turnedvalleys.tallies import delta_of


def joined_runs(one, two):
    """The shortest run for each sum of a number of one and a number of two."""
    found = {}
    for s, first in one.items():
        for t, second in two.items():
            known = found.get(s + t)
            if known is None or len(first) + len(second) < len(known):
                found[s + t] = first + second
    return found


def shorter_runs(one, two):
    """The shortest run for each number of one or of two."""
    found = dict(one)
    for s, run in two.items():
        if s not in found or len(run) < len(found[s]):
            found[s] = run
    return found


def shortest_runs(row, kind):
    """A shortest run to a row of the class for each sum of deltas by which the value can grow."""
    next_of = nexts(row)
    delta = delta_of(row, kind)
    # For each free head m, for e(m) = 0 and e(m) = 1: the sums of the deltas of m and of those beneath it, each with
    # a shortest run of free heads beneath m that leads to it.
    beneath = {m: [{0: ()}, {delta[m]: ()}] for m in next_of}
    beneath[None] = [{0: ()}, {}]
    # By free heads ascending, so that all beneath a head are joined to it before it is joined to its next.
    for m in next_of:
        above = beneath[next_of[m]]
        for e in (0, 1):
            turned_too = {s: run + (m,) for s, run in beneath[m][1 - e].items()}
            above[e] = joined_runs(above[e], shorter_runs(beneath[m][e], turned_too))
    return beneath[None][0]


def run_with(row, kind, value):
    """Some run of the fewest turns to a row of the class with that value, or None."""
    check_kind(row, kind)
    if len(row.stones) > 16:
        raise TooLarge(len(row.stones))
    return shortest_runs(row, kind).get(value - measure(row, kind))


def fewest_with(row, kind, value):
    """The fewest turns to a row of the class with that value, or None."""
    run = run_with(row, kind, value)
    return None if run is None else len(run)
