"""The numbers of classes among all classes of the same stones.

A part is the stones of a row on one side of a greater stone, with the ends that they have there. Its number goes by
its greatest stone r: which of the other stones stand where, then the numbers of the two smaller parts that are left.
"""

from turnedvalleys.choosing import choose, subset_at, subset_number
from turnedvalleys.classcounts import class_count, edge_counts, inner_counts
from turnedvalleys.errors import BadNumber, BadSize, BadStone
from turnedvalleys.forms import fits
from turnedvalleys.rows import Row, check_ends, check_rule, lets
from turnedvalleys.senses import greatest_beneath, sense_of


class Counts:
    """The numbers of classes of parts, by how many stones they have.

    Inner ones are those of parts without an open end, edge ones those of parts with one.
    """

    def __init__(self, n, rule):
        self.rule = rule
        self.inner = inner_counts(n, rule)
        self.edge = edge_counts(n, self.inner)


class Split:
    """How many stones are given to two parts.

    Firsts and seconds are the numbers of classes of the first and of the second part, by how many stones it is given.
    """

    def __init__(self, many, firsts, seconds):
        self.many = many
        self.firsts = firsts
        self.seconds = seconds

    def ways(self, size):
        """How many classes there are if the first part is given so many stones."""
        return choose(self.many, size) * self.firsts[size] * self.seconds[self.many - size]

    def total(self):
        """How many classes there are."""
        return sum([self.ways(size) for size in range(self.many + 1)])

    def number(self, places, one, two):
        """The number for the places of the stones of the first part and the numbers of both parts."""
        size = len(places)
        before = sum([self.ways(less) for less in range(size)])
        chosen = subset_number(self.many, places) * self.firsts[size] + one
        return before + chosen * self.seconds[self.many - size] + two

    def at(self, number):
        """The places and the numbers of both parts for a number."""
        size = 0
        while number >= self.ways(size):
            number -= self.ways(size)
            size += 1
        chosen, two = divmod(number, self.seconds[self.many - size])
        subset, one = divmod(chosen, self.firsts[size])
        return (subset_at(self.many, size, subset), one, two)


def places_of(part, stones):
    """The places of the stones of a part among stones, both ascending."""
    return tuple([i for i, x in enumerate(sorted(stones)) if x in part])


def chosen_of(stones, places):
    """The stones at the places, and all others."""
    return (
        tuple([x for i, x in enumerate(stones) if i in places]),
        tuple([x for i, x in enumerate(stones) if i not in places]),
    )


def open_split(counts, many, ends):
    """How a greatest stone with an open end beside it splits the others: the first part has an open end."""
    return Split(many, counts.edge, counts.edge if ends == 0 else counts.inner)


def closed_split(counts, many):
    """How the greatest stone r of a closed part splits the others but c, the greatest of them."""
    # The first part is the lot of c, which has one stone more than it is given here.
    return Split(many, counts.inner[1:], counts.inner)


def open_number(row, counts, stones, ends):
    """The number of a part with an open end."""
    at = stones.index(max(stones))
    before, after = stones[:at], stones[at + 1:]
    # The greatest stone closes both parts as a wall does.
    one = part_number(row, counts, before, ends | 2)
    two = part_number(row, counts, after, ends | 1)
    split = open_split(counts, len(stones) - 1, ends)
    if ends == 1:
        return split.number(places_of(after, before + after), two, one)
    return split.number(places_of(before, before + after), one, two)


def closed_number(row, counts, stones):
    """The number of a part without an open end."""
    r = max(stones)
    c = greatest_beneath(row, r)
    at = stones.index(r)
    first, second = stones[:at], stones[at + 1:]
    if c in second:
        first, second = second, first
    split = closed_split(counts, len(stones) - 2)
    one = part_number(row, counts, first, 3)
    two = part_number(row, counts, second, 3)
    number = split.number(places_of(first, [x for x in stones if x not in (r, c)]), one, two)
    if sense_of(row, r) == 1 and not lets(counts.rule, len(stones)):
        number += split.total()
    return number


def part_number(row, counts, stones, ends):
    """The number of the part of row with these stones and ends."""
    if len(stones) < 2:
        return 0
    if ends == 3:
        return closed_number(row, counts, stones)
    return open_number(row, counts, stones, ends)


def class_number(row):
    """The number of the class of row among all classes of the same stones, ends and rule."""
    return part_number(row, Counts(len(row.stones), row.rule), row.stones, row.ends)


def open_part(counts, stones, number, ends):
    """The part with an open end and that number."""
    rest, r = stones[:-1], stones[-1]
    places, one, two = open_split(counts, len(rest), ends).at(number)
    first, second = chosen_of(rest, places)
    if ends == 1:
        first, second, one, two = second, first, two, one
    return part_at(counts, first, one, ends | 2, True) + (r,) + part_at(counts, second, two, ends | 1, False)


def closed_part(counts, stones, number, ahead):
    """The part without an open end and with that number."""
    rest, c, r = stones[:-2], stones[-2], stones[-1]
    split = closed_split(counts, len(rest))
    # Only a held head has a number of a sense; a free one has the sense 0 in the normal row.
    bit, left = divmod(number, split.total())
    places, one, two = split.at(left)
    first, second = chosen_of(rest, places)
    first_ahead = ahead == (bit == 0)
    one_part = part_at(counts, first + (c,), one, 3, first_ahead)
    two_part = part_at(counts, second, two, 3, not first_ahead)
    return one_part + (r,) + two_part if first_ahead else two_part + (r,) + one_part


def part_at(counts, stones, number, ends, ahead):
    """The part with that number as it stands in the normal row; ahead tells whether it stands ahead of its parent."""
    if len(stones) < 2:
        return stones
    if ends == 3:
        return closed_part(counts, stones, number, ahead)
    return open_part(counts, stones, number, ends)


def check_ascending(stones):
    """Raise BadSize or BadStone unless stones are the stones of a row, ascending."""
    if not 1 <= len(stones) <= 40:
        raise BadSize(len(stones))
    for i, x in enumerate(stones):
        if not fits(x) or (i > 0 and x <= stones[i - 1]):
            raise BadStone(i)


def class_at(stones, k, *, ends=0, rule=None):
    """The normal Row of the class with the number k among the rows of these stones."""
    check_ascending(stones)
    check_ends(ends)
    check_rule(rule)
    if not 0 <= k < class_count(len(stones), ends=ends, rule=rule):
        raise BadNumber(k)
    # Between two walls the greatest stone counts as standing ahead of its parent.
    return Row(part_at(Counts(len(stones), rule), stones, k, ends, True), ends=ends, rule=rule)
