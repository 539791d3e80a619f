"""[26]: begins."""

import unittest
from itertools import permutations

from tests import plain
from tests.refusing import RefusingTest
from turnedvalleys.begins import begins
from turnedvalleys.errors import BadPrefix
from turnedvalleys.rows import Row

LONG = Row(tuple(range(40)), ends=3)


class TestBegins(RefusingTest):
    def test_example(self):
        row = plain.example()
        for prefix, many in (((), 8), ((7,), 8), ((7, 3), 2), ((7, 4), 4), ((7, 4, 5), 4), ((7, 1), 1), ((7, 2), 1),
                             ((3,), 0), ((7, 5), 0), ((7, 9), 0), (plain.EXAMPLE, 1), (plain.EXAMPLE[::-1], 0)):
            self.same_kind(begins(row, prefix), many)

    def test_all_beginnings_of_small_classes(self):
        for rows in plain.classes(4, (None, (), (2,), (3,), (2, 4))):
            for many in range(len(rows[0].stones) + 1):
                for prefix in permutations(rows[0].stones, many):
                    said = sum(row.stones[:many] == prefix for row in rows)
                    self.same_kind(begins(rows[0], prefix), said)
                    self.same_kind(begins(rows[-1], prefix), said)

    def test_beginnings_of_larger_rows(self):
        for rule in (None, (2, 5), (3, 9), (2, 3, 8)):
            rows = plain.class_of(Row(plain.EXAMPLE, ends=3, rule=rule))
            for many in range(10):
                for prefix in {row.stones[:many] for row in rows[::2]}:
                    said = sum(row.stones[:many] == prefix for row in rows)
                    for row in (rows[0], rows[len(rows) // 2]):
                        self.assertEqual(begins(row, prefix), said)
                        self.assertEqual(begins(row, prefix[1:] + prefix[:1]),
                                         sum(two.stones[:many] == prefix[1:] + prefix[:1] for two in rows))

    def test_forty_stones(self):
        self.assertEqual(begins(LONG, ()), 2 ** 39)
        self.assertEqual(begins(LONG, (39,)), 2 ** 38)
        self.assertEqual(begins(LONG, (39, 38, 37)), 2 ** 36)
        self.assertEqual(begins(LONG, (20,)), 2 ** 19)
        self.assertEqual(begins(LONG, (0,)), 1)
        self.assertEqual(begins(LONG, (20, 21)), 0)
        # Behind 20, the lesser ones are still free; they stand ahead of all greater ones.
        self.assertEqual(begins(LONG, (20, 19)), 2 ** 18)
        self.assertEqual(begins(LONG, LONG.stones), 1)
        self.assertEqual(begins(LONG, LONG.stones[::-1]), 1)
        self.assertEqual(begins(LONG, LONG.stones[:38] + (39, 38)), 0)
        self.assertEqual(begins(LONG, (39,) + LONG.stones[:39]), 1)

    def test_strangers_and_stones_that_stood_ahead(self):
        row = plain.example()
        for i in range(9):
            good = plain.EXAMPLE[:i]
            for bad in (0, 10, -7, 10 ** 30) + good[:1] + good[-1:]:
                self.refused(BadPrefix, i, begins, row, good + (bad,))
                self.refused(BadPrefix, i, begins, row, good + (bad,) + plain.EXAMPLE[i:])
                self.refused(BadPrefix, i, begins, row, good + (bad, 0, bad))
        self.refused(BadPrefix, 9, begins, row, plain.EXAMPLE + (7,))
        self.refused(BadPrefix, 1, begins, row, (8, 8, 8))
        self.refused(BadPrefix, 2, begins, row, (8, 6, 8, 0))

    def test_names_of_arguments(self):
        self.assertEqual(begins(prefix=(7, 3), row=plain.example()), 2)


if __name__ == "__main__":
    unittest.main()
