"""[25]: fewest_with, run_with."""

import unittest
from itertools import product

from tests import plain
from tests.refusing import RefusingTest
from tests.values import NO_KINDS
from turnedvalleys.errors import BadKind, TooLarge
from turnedvalleys.nearest import fewest_with, run_with
from turnedvalleys.rows import Row

SIXTEEN = Row(tuple(range(16)), ends=3)
TWISTED = Row((8, 3, 0, 1, 2, 6, 5, 4, 7, 15, 12, 10, 9, 11, 14, 13), ends=3)


class TestNearest(RefusingTest):
    def test_example(self):
        row = plain.example()
        self.same_kind(fewest_with(row, ("falls",), 4), 0)
        self.same_kind(fewest_with(row, ("falls",), 5), 1)
        self.assertIsNone(fewest_with(row, ("falls",), 6))
        self.same_kind(run_with(row, ("falls",), 4), ())
        self.assertIsNone(run_with(row, ("falls",), 6))
        self.assertEqual(len(run_with(row, ("falls",), 5)), 1)

    def test_small_classes_by_a_look_at_all_rows(self):
        for rows in plain.classes(4, (None, (), (2,), (3,), (2, 4))):
            for row in rows[::3]:
                for kind in plain.kinds(row):
                    self.look_at_all(row, kind)

    def test_larger_classes_by_a_look_at_all_rows(self):
        for stones, ends in ((plain.EXAMPLE, 3), ((4, 0, 1, 2, 3, 8, 5, 7, 6), 2), (tuple(range(8)), 3)):
            for rule in (None, (2, 5), (3, 4, 9), (2, 3, 6)):
                row = Row(stones, ends=ends, rule=rule)
                for kind in list(plain.kinds(row))[::5] + [("falls",), ("wrong",)]:
                    self.look_at_all(row, kind)

    def look_at_all(self, row, kind):
        least = {}
        for stones, many in plain.distances(row).items():
            value = plain.measure(plain.like(row, stones), kind)
            least[value] = min(many, least.get(value, many))
        for value in range(min(least) - 2, max(least) + 3):
            run = run_with(row, kind, value)
            if value not in least:
                self.assertIsNone(fewest_with(row, kind, value))
                self.assertIsNone(run)
                continue
            self.same_kind(fewest_with(row, kind, value), least[value])
            self.assertIs(run.__class__, tuple)
            self.assertEqual(len(run), least[value])
            there = plain.like(row, plain.walked(row, run))
            self.assertEqual(plain.measure(there, kind), value)

    def test_sixteen_stones_by_all_changes(self):
        least = {}
        for bits in product((0, 1), repeat=15):
            # The turns are where a bit differs from that of the next head.
            many = sum(e != f for e, f in zip(bits, bits[1:] + (0,)))
            for kind, value in ((("falls",), sum(bits)), (("wrong",), sum(x for x, e in enumerate(bits, 1) if e))):
                least[kind, value] = min(many, least.get((kind, value), many))
        for kind, most in ((("falls",), 15), (("wrong",), 120)):
            for value in range(-1, most + 2):
                many = least.get((kind, value))
                self.assertEqual(fewest_with(SIXTEEN, kind, value), many)
                run = run_with(SIXTEEN, kind, value)
                if many is None:
                    self.assertIsNone(run)
                else:
                    self.assertEqual(len(run), many)
                    there = plain.like(SIXTEEN, plain.walked(SIXTEEN, run))
                    self.assertEqual(plain.measure(there, kind), value)

    def test_sixteen_stones_of_many_parts(self):
        for kind in plain.kinds(TWISTED):
            value = plain.measure(TWISTED, kind)
            self.assertEqual(fewest_with(TWISTED, kind, value), 0)
            self.assertEqual(run_with(TWISTED, kind, value), ())
            for x in plain.free_heads(TWISTED):
                there = plain.measure(plain.like(TWISTED, plain.walked(TWISTED, (x,))), kind)
                self.assertEqual(fewest_with(TWISTED, kind, there), 0 if there == value else 1)

    def test_any_value(self):
        row = plain.example()
        for value in (-1, -10 ** 30, 10 ** 30):
            for kind in plain.kinds(row):
                self.assertIsNone(fewest_with(row, kind, value))
                self.assertIsNone(run_with(row, kind, value))

    def test_too_many_stones(self):
        for many in (17, 18, 40):
            for ends in plain.ENDS:
                row = Row(tuple(range(many)), ends=ends)
                for ask in (fewest_with, run_with):
                    self.refused(TooLarge, many, ask, row, ("falls",), 3)
                    self.refused(TooLarge, many, ask, row, ("place", 16), 10 ** 30)

    def test_a_bad_kind_ahead_of_too_many_stones(self):
        row = Row(tuple(range(100, 117)))
        for kind in NO_KINDS:
            for ask in (fewest_with, run_with):
                self.refused(BadKind, kind, ask, plain.example(), kind, 0)
                self.refused(BadKind, kind, ask, row, kind, 0)

    def test_names_of_arguments(self):
        row = plain.example()
        self.assertEqual(fewest_with(value=5, kind=("falls",), row=row), 1)
        self.assertEqual(run_with(value=4, kind=("falls",), row=row), ())


if __name__ == "__main__":
    unittest.main()
