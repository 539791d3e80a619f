"""The shapes of rows."""

from turnedvalleys.forests import is_record, parent
from turnedvalleys.forms import fits, is_number
from turnedvalleys.rows import check_ends, is_ahead, open_ahead, open_behind


def side_of(row, x, p):
    """What the triple of x says of the side on which it stands of its parent p."""
    if p is None or not is_record(row, p):
        return -1
    return 0 if is_ahead(row, x, p) else 1


def triple_of(row, x):
    """The triple of a stone."""
    p = parent(row, x)
    return (x, p, side_of(row, x, p))


def shape(row):
    """One triple (stone, parent, side) for each stone, by stones ascending."""
    return tuple([triple_of(row, x) for x in sorted(row.stones)])


def is_triple(value):
    """Whether a value of any kind is a stone, a number or None, and a number."""
    if not isinstance(value, tuple) or len(value) != 3:
        return False
    x, p, s = value
    return is_number(x) and fits(x) and (p is None or is_number(p)) and is_number(s)


def are_triples(value):
    """Whether a value of any kind is 1 to 40 triples, their stones strictly ascending."""
    if not isinstance(value, tuple) or not 1 <= len(value) <= 40:
        return False
    for triple in value:
        if not is_triple(triple):
            return False
    stones = [triple[0] for triple in value]
    return all([x < y for x, y in zip(stones, stones[1:])])


def flags_beneath(flags, s):
    """The flags (open ahead, open behind) beneath a stone with these flags, or None if s does not fit them."""
    ahead, behind = flags
    if not ahead and not behind:
        return (False, False) if s == -1 else None
    if s == 0:
        return (ahead, False)
    if s == 1:
        return (False, behind)
    return None


def hang_together(triples, ends):
    """Whether triples are one forest under the greatest stone, with the right flags and sides."""
    top, no_parent, s = triples[-1]
    if no_parent is not None or s != -1:
        return False
    flags = {top: (open_ahead(ends), open_behind(ends))}
    taken = []
    for x, p, s in reversed(triples[:-1]):
        # All greater stones have their flags by now, and no others: so p is a stone above x.
        if p is None or p not in flags:
            return False
        flags[x] = flags_beneath(flags[p], s)
        if flags[x] is None or taken.count((p, s)) > (1 if s == -1 else 0):
            return False
        taken.append((p, s))
    return True


def shape_right(triples, ends):
    """Whether triples is the shape of some row with these ends."""
    check_ends(ends)
    return are_triples(triples) and hang_together(triples, ends)


def shape_heads(triples):
    """The heads of a right shape, ascending."""
    # Just beneath inner stones there are triples with -1, but for the greatest stone's own one.
    return tuple(sorted({p for x, p, s in triples if s == -1 and p is not None}))
