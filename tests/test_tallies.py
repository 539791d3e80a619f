"""[24]: deltas, tally, spread."""

import unittest
from collections import Counter
from math import comb

from tests import plain
from tests.refusing import RefusingTest
from tests.values import NO_KINDS
from turnedvalleys.errors import BadKind
from turnedvalleys.rows import Row
from turnedvalleys.runs import walked
from turnedvalleys.tallies import deltas, spread, tally

LONG = Row(tuple(range(40)), ends=3)
# Rows of 40 stones with 38 and 39 free heads, some of which have stones on both sides.
FORTY = (LONG, Row(tuple(range(39, -1, -1)), ends=3), walked(LONG, tuple(range(1, 40, 3))),
         Row(tuple(range(40)), ends=1))


def plain_deltas(rows, row, kind):
    """The growth to that row of the class in which just the sides differ that a free head leads."""
    by_changed = {}
    for two in rows:
        changed = frozenset(x for x in plain.heads(row) if plain.side(row, x) != plain.side(two, x))
        by_changed[changed] = plain.measure(two, kind)
    led = {m: frozenset(x for x in plain.heads(row) if plain.leader(row, x) == m) for m in plain.free_heads(row)}
    return tuple(by_changed[led[m]] - plain.measure(row, kind) for m in plain.free_heads(row))


def sums(value, grown):
    """How often each sum comes of some of the numbers, added one after the other."""
    found = Counter({value: 1})
    for delta in grown:
        more = Counter(found)
        for s, many in found.items():
            more[s + delta] += many
        found = more
    return found


class TestTallies(RefusingTest):
    def test_example(self):
        row = plain.example()
        self.same_kind(deltas(row, ("falls",)), (1, -1, 0))
        self.same_kind(deltas(row, ("wrong",)), (1, -2, 5))
        self.same_kind(deltas(row, ("place", 1)), (1, -1, 2))
        self.same_kind(deltas(row, ("place", 5)), (0, 0, -2))
        self.same_kind(tally(row, ("falls",)), ((3, 2), (4, 4), (5, 2)))
        self.same_kind(tally(row, ("wrong",)), tuple((value, 1) for value in (9, 10, 11, 12, 14, 15, 16, 17)))
        self.same_kind(spread(row, ("wrong",)), (9, 17))
        row = plain.example((2, 5))
        self.same_kind(deltas(row, ("falls",)), (1, -1))
        self.same_kind(deltas(row, ("place", 1)), (1, 1))

    def test_small_classes_by_a_look_at_all_rows(self):
        for rows in plain.classes(4, (None, (), (2,), (3,), (2, 4), (4,))):
            for row in rows[::3]:
                for kind in plain.kinds(row):
                    self.look_at_all(rows, row, kind)

    def test_classes_of_five_stones(self):
        for rule in (None, (), (3,), (2, 5), (5,)):
            for rows in list(plain.classes_of(range(5), 3, rule))[::3]:
                for kind in plain.kinds(rows[0]):
                    self.look_at_all(rows, rows[-1], kind)

    def test_classes_of_nine_stones(self):
        for rule in (None, (2, 5), (3, 9)):
            rows = plain.class_of(Row(plain.EXAMPLE, ends=3, rule=rule))
            row = rows[len(rows) // 3]
            for kind in list(plain.kinds(row))[::4] + [("falls",), ("wrong",)]:
                self.look_at_all(rows, row, kind)

    def look_at_all(self, rows, row, kind):
        values = Counter(plain.measure(two, kind) for two in rows)
        self.same_kind(tally(row, kind), tuple(sorted(values.items())))
        self.same_kind(spread(row, kind), (min(values), max(values)))
        self.same_kind(deltas(row, kind), plain_deltas(rows, row, kind))

    def test_no_free_head(self):
        for row in (Row((5,), ends=3), Row((2, 1)), plain.example(())):
            for kind in plain.kinds(row):
                value = plain.measure(row, kind)
                self.same_kind(deltas(row, kind), ())
                self.same_kind(tally(row, kind), ((value, 1),))
                self.same_kind(spread(row, kind), (value, value))

    def test_known_tallies_of_forty_stones(self):
        for row in FORTY[:3]:
            self.assertEqual(tally(row, ("falls",)), tuple((k, comb(39, k)) for k in range(40)))
            self.assertEqual(tally(row, ("place", 0)), tuple((k, comb(39, k)) for k in range(40)))
            self.assertEqual(tally(row, ("wrong",)), tuple(sorted(sums(0, range(1, 40)).items())))
            self.assertEqual(spread(row, ("wrong",)), (0, 780))
            self.assertEqual(tally(row, ("ahead", 3, 17)), ((0, 2 ** 38), (1, 2 ** 38)))

    def test_each_kind_of_forty_stones(self):
        for row in FORTY:
            free = plain.free_heads(row)
            for kind in (("falls",), ("wrong",), ("place", 0), ("place", 20), ("place", 39), ("ahead", 4, 30)):
                grown = deltas(row, kind)
                self.assertEqual(len(grown), len(free))
                value = plain.measure(row, kind)
                for x, delta in list(zip(free, grown))[::4]:
                    # The turn of x changes the sides of all heads in its lot, the turn below it turns these back.
                    below = [y for y in free if y < x][-1:]
                    two = plain.like(row, plain.walked(row, [x] + below))
                    self.assertEqual(delta, plain.measure(two, kind) - value)
                found = tally(row, kind)
                self.assertEqual(found, tuple(sorted(sums(value, grown).items())))
                self.assertEqual(sum(many for _, many in found), 2 ** len(free))
                self.assertEqual(spread(row, kind), (found[0][0], found[-1][0]))

    def test_what_is_no_kind(self):
        for kind in NO_KINDS:
            for ask in (deltas, tally, spread):
                self.refused(BadKind, kind, ask, plain.example(), kind)
        for ask in (deltas, tally, spread):
            self.refused(BadKind, ("place", 40), ask, LONG, ("place", 40))

    def test_names_of_arguments_and_nothing_changed(self):
        row = plain.example()
        self.assertEqual(deltas(kind=("falls",), row=row), (1, -1, 0))
        self.assertEqual(tally(kind=("falls",), row=row), ((3, 2), (4, 4), (5, 2)))
        self.assertEqual(spread(kind=("falls",), row=row), (3, 5))
        self.assertEqual(plain.whole(row), plain.whole(plain.example()))


if __name__ == "__main__":
    unittest.main()
