"""Runs: one turn after the other."""

from turnedvalleys.errors import BadRun, TooMany
from turnedvalleys.forests import free_heads
from turnedvalleys.forms import is_number
from turnedvalleys.lots import span
from turnedvalleys.rows import Row, row_like
from turnedvalleys.turning import turned_about


def check_length(run):
    """Raise TooMany unless a run may have so many turns."""
    if len(run) > 10000:
        raise TooMany(len(run))


def check_turns(row, run):
    """Raise BadRun unless each number of the run is a free head when it comes."""
    # Turns change no head, so what is a free head at the beginning is one all the way.
    free = free_heads(row)
    for i, x in enumerate(run):
        if x not in free:
            raise BadRun(i)


def check_run(row, run):
    """Raise TooMany or BadRun unless run is a run of row."""
    check_length(run)
    check_turns(row, run)


def stones_after(row, run):
    """The stones after a run of row."""
    stones = row.stones
    for x in run:
        first, last = span(stones, x)
        stones = turned_about(stones, first, last)
    return stones


def walked(row, run):
    """The Row that the run leads to."""
    check_run(row, run)
    return row_like(row, stones_after(row, run))


def trail(row, run):
    """The Rows on the way, the first and the last one with them."""
    check_run(row, run)
    found = [row]
    for x in run:
        first, last = span(found[-1].stones, x)
        found.append(row_like(row, turned_about(found[-1].stones, first, last)))
    return tuple(found)


def odd_heads(row, run):
    """The free heads that stand in the run an odd number of times, ascending."""
    return tuple([x for x in free_heads(row) if run.count(x) % 2 == 1])


def trimmed(row, run):
    """The heads that stand in the run an odd number of times, ascending."""
    check_run(row, run)
    return odd_heads(row, run)


def is_run(row, value):
    """Whether a value of any kind is a run of row."""
    if not isinstance(value, tuple) or len(value) > 10000:
        return False
    free = free_heads(row)
    for x in value:
        if not is_number(x) or x not in free:
            return False
    return True


def run_right(one, run, two):
    """Whether run leads from one to a row with the ends, the rule and the stones of two."""
    if not isinstance(one, Row) or not isinstance(two, Row):
        return False
    if one.ends != two.ends or one.rule != two.rule or not is_run(one, run):
        return False
    return stones_after(one, run) == two.stones


def back(run):
    """The numbers of a run in reversed order."""
    check_length(run)
    return run[::-1]
