"""Slow and plain ways to the same answers, by the definitions alone, for the tests to compare with.

Nothing here asks the package but for making a Row.
"""

from itertools import permutations

from turnedvalleys.rows import Row

ENDS = (0, 1, 2, 3)
RULES = (None, (), (2,), (3,), (2, 4), (2, 3, 4, 5, 6))
EXAMPLE = (7, 3, 1, 2, 5, 4, 9, 6, 8)


def example(rule=None):
    """The row of the examples in the document: A."""
    return Row(EXAMPLE, rule=rule)


def orders(most, least=1):
    """All rows of the stones 0 to n - 1, for n from least to most."""
    for n in range(least, most + 1):
        for stones in permutations(range(n)):
            yield stones


def rows(most, rules=(None,), least=1):
    """All Rows of few stones, with each of the four ends and each of the rules."""
    for stones in orders(most, least):
        for ends in ENDS:
            for rule in rules:
                yield Row(stones, ends=ends, rule=rule)


def whole(row):
    """What a Row is."""
    return (row.stones, row.ends, row.rule)


def before(row, i):
    """What stands right before the place i."""
    if i > 0:
        return row.stones[i - 1]
    return "wall" if row.ends in (1, 3) else "open"


def after(row, j):
    """What stands right after the place j."""
    if j + 1 < len(row.stones):
        return row.stones[j + 1]
    return "wall" if row.ends in (2, 3) else "open"


def lot_places(row, x):
    """The places of the longest stretch with x in it and no greater stone, among all stretches."""
    n = len(row.stones)
    at = row.stones.index(x)
    fit = [(j - i, i, j) for i in range(n) for j in range(i, n)
           if i <= at <= j and max(row.stones[i:j + 1]) == x]
    _, i, j = max(fit)
    return (i, j)


def lot(row, x):
    i, j = lot_places(row, x)
    return row.stones[i:j + 1]


def closers(row, x):
    i, j = lot_places(row, x)
    return (before(row, i), after(row, j))


def parent(row, x):
    """The stone of the least lot that holds the lot of x and more."""
    holding = [(len(lot(row, y)), y) for y in row.stones if set(lot(row, x)) < set(lot(row, y))]
    return min(holding)[1] if holding else None


def is_head(row, x):
    return "open" not in closers(row, x) and len(lot(row, x)) >= 2


def lets(rule, length):
    return rule is None or length in rule


def heads(row):
    return tuple(x for x in sorted(row.stones) if is_head(row, x))


def free_heads(row):
    return tuple(x for x in heads(row) if lets(row.rule, len(lot(row, x))))


def held_heads(row):
    return tuple(x for x in heads(row) if not lets(row.rule, len(lot(row, x))))


def closes(closer, stretch):
    return closer == "wall" or (closer != "open" and closer > max(stretch))


def stretches(row):
    """The pairs of places whose stretch may be turned about, by a look at all pairs."""
    n = len(row.stones)
    return tuple((i, j) for i in range(n) for j in range(i + 1, n)
                 if lets(row.rule, j - i + 1)
                 and closes(before(row, i), row.stones[i:j + 1])
                 and closes(after(row, j), row.stones[i:j + 1]))


def turned(row, i, j):
    """The Row with the stretch (i, j) turned about."""
    stones = row.stones[:i] + tuple(reversed(row.stones[i:j + 1])) + row.stones[j + 1:]
    return Row(stones, ends=row.ends, rule=row.rule)


def reached(row, neighbours):
    """The stones of each Row that is reached from row, with the fewest steps, by trying step after step."""
    found = {row.stones: 0}
    layer = [row]
    while layer:
        nearer = layer
        layer = []
        for one in nearer:
            for two in neighbours(one):
                if two.stones not in found:
                    found[two.stones] = found[one.stones] + 1
                    layer.append(two)
    return found


def like(row, stones):
    """The Row of these stones with the ends and the rule of row."""
    return Row(stones, ends=row.ends, rule=row.rule)


def one_turn(row):
    """The Rows after one turn."""
    return [turned(row, i, j) for i, j in stretches(row)]


def distances(row):
    """The stones of each row of the class, with the fewest turns from row."""
    return reached(row, one_turn)


def classes(most, rules=(None,), least=1):
    """Each class of Rows of few stones once, as the list of its Rows, ascending by their stones."""
    for n in range(least, most + 1):
        for ends in ENDS:
            for rule in rules:
                yield from classes_of(range(n), ends, rule)


def classes_of(stones, ends, rule):
    """Each class of Rows of these stones, as the list of its Rows, ascending by their stones."""
    seen = set()
    for order in permutations(stones):
        if order not in seen:
            found = class_of(Row(order, ends=ends, rule=rule))
            seen.update(row.stones for row in found)
            yield found


def class_of(row):
    """All Rows of the class of row, ascending by their stones."""
    return [like(row, stones) for stones in sorted(distances(row))]


def walked(row, run):
    """The stones after a run, each head looked up by the stretch of which it is the greatest stone."""
    for x in run:
        (i, j), = [(i, j) for i, j in stretches(row) if max(row.stones[i:j + 1]) == x]
        row = turned(row, i, j)
    return row.stones


def sense(row, x):
    """The sense of a head, by the words of the document."""
    c = max(y for y in lot(row, x) if y != x)
    p = parent(row, x)
    c_ahead = row.stones.index(c) < row.stones.index(x)
    x_ahead = p is None or row.stones.index(x) < row.stones.index(p)
    if c_ahead and x_ahead:
        return 0
    if not c_ahead and not x_ahead:
        return 0
    return 1


def shape(row):
    """The shape of a row, by the words of the document."""
    triples = []
    for x in sorted(row.stones):
        p = parent(row, x)
        if p is None or "open" not in closers(row, p):
            s = -1
        elif row.stones.index(x) < row.stones.index(p):
            s = 0
        else:
            s = 1
        triples.append((x, p, s))
    return tuple(triples)


def ahead(row, x, y):
    """Whether x stands ahead of y."""
    return row.stones.index(x) < row.stones.index(y)


def side(row, x):
    """The side of a head, by the words of the document."""
    return 0 if ahead(row, max(y for y in lot(row, x) if y != x), x) else 1


def meets(row, x, y):
    """The greatest stone from x to y."""
    i, j = row.stones.index(x), row.stones.index(y)
    return max(row.stones[min(i, j):max(i, j) + 1])


def leader(row, x):
    """The leader of a head, by the words of the document."""
    if x in free_heads(row):
        return x
    p = parent(row, x)
    return leader(row, p) if p is not None and is_head(row, p) else None


def keeps(row, wishes):
    """Whether row keeps all wishes."""
    return all(ahead(row, x, y) for x, y in wishes)


def measure(row, kind):
    """The value of a row, by the words of the document."""
    stones = row.stones
    pairs = [(i, j) for j in range(len(stones)) for i in range(j)]
    if kind == ("falls",):
        return sum(stones[i] > stones[j] for i, j in pairs if j == i + 1)
    if kind == ("wrong",):
        return sum(stones[i] > stones[j] for i, j in pairs)
    if kind[0] == "place":
        return stones.index(kind[1])
    return int(ahead(row, kind[1], kind[2]))


def kinds(row):
    """All kinds for a row."""
    yield ("falls",)
    yield ("wrong",)
    for x in row.stones:
        yield ("place", x)
        for y in row.stones:
            if x != y:
                yield ("ahead", x, y)
