"""Runs that are mended so that they lead to a goal."""

from turnedvalleys.fewest import run_to
from turnedvalleys.forests import free_heads
from turnedvalleys.runs import check_length, walked


def mended(row, run, goal):
    """The free heads of the run, then the run of the fewest turns to the goal."""
    check_length(run)
    # Turns change no head, so what is a free head at the beginning is one all the way.
    free = free_heads(row)
    kept = tuple([x for x in run if x in free])
    # The goal comes of the row that is reached just if it comes of row.
    return kept + run_to(walked(row, kept), goal)
