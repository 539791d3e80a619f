"""[23]: measure and the kinds."""

import unittest

from tests import plain
from tests.refusing import RefusingTest
from tests.values import NO_KINDS
from turnedvalleys.errors import BadKind
from turnedvalleys.kinds import measure
from turnedvalleys.rows import Row


class TestMeasure(RefusingTest):
    def test_example(self):
        row = plain.example()
        self.same_kind(measure(row, ("falls",)), 4)
        self.same_kind(measure(row, ("wrong",)), 11)
        self.same_kind(measure(row, ("place", 1)), 2)
        self.same_kind(measure(row, ("ahead", 1, 2)), 1)
        self.same_kind(measure(row, ("ahead", 2, 1)), 0)

    def test_small_rows_by_the_words(self):
        for stones in plain.orders(5):
            for row in (Row(stones), Row(tuple(3 * x - 7 for x in stones), ends=3, rule=())):
                for kind in plain.kinds(row):
                    self.same_kind(measure(row, kind), plain.measure(row, kind))

    def test_one_stone(self):
        row = Row((-5,), ends=1)
        self.assertEqual([measure(row, kind) for kind in (("falls",), ("wrong",), ("place", -5))], [0, 0, 0])
        self.refused(BadKind, ("ahead", -5, -5), measure, row, ("ahead", -5, -5))

    def test_forty_stones(self):
        for stones in (tuple(range(40)), tuple(range(39, -1, -1)), tuple(7 * x % 40 for x in range(40))):
            row = Row(stones)
            for kind in plain.kinds(row):
                self.same_kind(measure(row, kind), plain.measure(row, kind))
        self.assertEqual(measure(Row(tuple(range(39, -1, -1))), ("wrong",)), 780)
        self.assertEqual(measure(Row(tuple(range(39, -1, -1))), ("falls",)), 39)

    def test_what_is_no_kind(self):
        for kind in NO_KINDS:
            self.refused(BadKind, kind, measure, plain.example(), kind)
            self.refused(BadKind, kind, measure, plain.example((2, 5)), kind)

    def test_stones_of_another_row(self):
        row = Row((1, 3))
        for kind in (("place", 2), ("ahead", 1, 2), ("ahead", 2, 3), ("ahead", 3, 3)):
            self.refused(BadKind, kind, measure, row, kind)
        self.assertEqual(measure(row, ("ahead", 1, 3)), 1)

    def test_names_of_arguments(self):
        self.assertEqual(measure(kind=("falls",), row=plain.example()), 4)


if __name__ == "__main__":
    unittest.main()
