"""Turns and runs of like rows."""

from turnedvalleys.errors import BadRun, BadStretch
from turnedvalleys.forms import is_number
from turnedvalleys.likerows import LikeRow, is_closed
from turnedvalleys.runs import check_length
from turnedvalleys.turning import turned_about


def is_like_stretch(stones, ends, value):
    """Whether a value of any kind is a like stretch of these stones with these ends."""
    if not isinstance(value, tuple) or len(value) != 2:
        return False
    i, j = value
    if not is_number(i) or not is_number(j) or not 0 <= i < j < len(stones):
        return False
    return is_closed(stones, ends, i, j)


def steps_done(row, run):
    """The pair of how many entries of the run can be done, one after the other, and of the stones after these."""
    stones = row.stones
    for k, pair in enumerate(run):
        if not is_like_stretch(stones, row.ends, pair):
            return (k, stones)
        stones = turned_about(stones, pair[0], pair[1])
    return (len(run), stones)


def like_turned(row, i, j):
    """The LikeRow with a like stretch turned about."""
    if not is_like_stretch(row.stones, row.ends, (i, j)):
        raise BadStretch((i, j))
    return LikeRow(turned_about(row.stones, i, j), ends=row.ends)


def like_walked(row, run):
    """The LikeRow that a like run leads to."""
    check_length(run)
    done, stones = steps_done(row, run)
    if done < len(run):
        raise BadRun(done)
    return LikeRow(stones, ends=row.ends)


def like_run_right(one, run, two):
    """Whether run is a like run that leads from one to a LikeRow with the ends and the stones of two."""
    if not isinstance(one, LikeRow) or not isinstance(two, LikeRow) or one.ends != two.ends:
        return False
    if not isinstance(run, tuple) or len(run) > 10000:
        return False
    return steps_done(one, run) == (len(run), two.stones)
