"""How many classes of like rows there are.

A content tells how often each stone stands, the least stone first.
"""

from turnedvalleys.errors import BadCount, BadSize
from turnedvalleys.rows import check_ends


class Tables:
    """The numbers of classes by contents.

    Closed are those of parts between two closers, edged those of parts with one open end; chains are those of m closed
    parts in a row, by the pair of m and of what they have together.
    """

    def __init__(self):
        self.closed = {}
        self.edged = {}
        self.chains = {}


def within(content):
    """All contents within a content, ascending by how often the greatest stone stands, then the next one, and so on."""
    found = [()]
    for many in content:
        found = [some + (k,) for k in range(many + 1) for some in found]
    return found


def less(content, some):
    """What is left of a content without some of it."""
    return tuple([many - k for many, k in zip(content, some)])


def is_even(content):
    """Whether all numbers of a content are even."""
    return all([many % 2 == 0 for many in content])


def half(content):
    """The half of an even content."""
    return tuple([many // 2 for many in content])


def without_top(content):
    """How often the greatest stone of a content stands, and the content without it."""
    top = max([i for i, many in enumerate(content) if many > 0])
    return (content[top], content[:top] + (0,) + content[top + 1:])


def mirrored_count(tables, k, rest):
    """How many choices of classes for the parts between k tops and two closers are the same read from the end."""
    if k % 2 == 1:
        return tables.chains[((k + 1) // 2, half(rest))] if is_even(rest) else 0
    middles = [some for some in within(rest) if is_even(less(rest, some))]
    return sum([tables.closed[some] * tables.chains[(k // 2, half(less(rest, some)))] for some in middles])


def closed_count(tables, k, rest):
    """The number of classes of k tops and the rest between two closers."""
    # A part and the part turned about are one class, and only the mirrored ones are not counted twice.
    return (tables.chains[(k + 1, rest)] + mirrored_count(tables, k, rest)) // 2


def edged_count(tables, k, rest):
    """The number of classes of k tops and the rest with one open end."""
    return sum([tables.edged[some] * tables.chains[(k, less(rest, some))] for some in within(rest)])


def open_count(tables, k, rest):
    """The number of classes of k tops and the rest with two open ends."""
    total = 0
    for first in within(rest):
        left = less(rest, first)
        for last in within(left):
            total += tables.edged[first] * tables.edged[last] * tables.chains[(k - 1, less(left, last))]
    return total


def chain_count(tables, m, content):
    """The number of choices of classes for m closed parts that have this content together."""
    if m == 0:
        return 0 if any([many > 0 for many in content]) else 1
    return sum([tables.closed[some] * tables.chains[(m - 1, less(content, some))] for some in within(content)])


def tables_for(content, most):
    """The tables for all contents within a content, with chains of at most so many parts."""
    tables = Tables()
    # In this order each content comes after all those within it, and all that its own numbers need are there.
    for some in within(content):
        if any([many > 0 for many in some]):
            k, rest = without_top(some)
            tables.closed[some] = closed_count(tables, k, rest)
            tables.edged[some] = edged_count(tables, k, rest)
        else:
            tables.closed[some] = 1
            tables.edged[some] = 1
        for m in range(most + 1):
            tables.chains[(m, some)] = chain_count(tables, m, some)
    return tables


def check_counts(counts):
    """Raise BadSize or BadCount unless counts are 1 to 6 numbers from 1 on with a sum of at most 12."""
    if not 1 <= len(counts) <= 6:
        raise BadSize(len(counts))
    for many in counts:
        if many < 1:
            raise BadCount(many)
    if sum(counts) > 12:
        raise BadCount(sum(counts))


def like_count(counts, *, ends=0):
    """How many classes the like rows have in which the stones stand so often."""
    check_counts(counts)
    check_ends(ends)
    k, rest = without_top(counts)
    tables = tables_for(rest, max(counts) + 1)
    if ends == 3:
        return closed_count(tables, k, rest)
    return open_count(tables, k, rest) if ends == 0 else edged_count(tables, k, rest)
