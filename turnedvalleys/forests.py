"""Parents and children, records and heads."""

from turnedvalleys.lots import closers, lot, span_of
from turnedvalleys.rows import lets


def parent(row, x):
    """The lesser of the closers of x that are stones, or None."""
    return min([c for c in closers(row, x) if c not in ("wall", "open")], default=None)


def children(row, x):
    """The greatest stone of the lot of x before x and the one after x, or None."""
    first, last = span_of(row, x)
    place = row.place(x)
    before = row.stones[first:place]
    after = row.stones[place + 1:last + 1]
    return (max(before, default=None), max(after, default=None))


def above(row, x):
    """The parent of x, its parent, and so on to the greatest stone."""
    found = []
    p = parent(row, x)
    while p is not None:
        found.append(p)
        p = parent(row, p)
    return tuple(found)


def is_record(row, x):
    """Whether the lot of x has an open end beside it."""
    return "open" in closers(row, x)


def heads(row):
    """The inner stones whose lots have at least two stones, ascending."""
    return tuple([x for x in sorted(row.stones) if len(lot(row, x)) > 1 and not is_record(row, x)])


def is_let(row, x):
    """Whether the rule lets the length of the lot of x."""
    return lets(row.rule, len(lot(row, x)))


def free_heads(row):
    """The heads of which the rule lets the length of the lot, ascending."""
    return tuple([x for x in heads(row) if is_let(row, x)])


def held_heads(row):
    """The heads that are not free, ascending."""
    return tuple([x for x in heads(row) if not is_let(row, x)])
