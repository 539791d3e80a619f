"""Parts of a row."""

from turnedvalleys.lots import closers, lot
from turnedvalleys.rows import Row


def high(row, least):
    """The Row of the stones that are not below least."""
    return Row(tuple([x for x in row if x >= least]), ends=row.ends)


def lot_row(row, x):
    """The Row of the stones of the lot of x, with a wall on each side that is closed."""
    before, after = closers(row, x)
    ends = (0 if before == "open" else 1) + (0 if after == "open" else 2)
    return Row(lot(row, x), ends=ends, rule=row.rule)
