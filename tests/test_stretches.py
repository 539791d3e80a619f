"""[6]: stretches, stretch_of, head_at."""

import unittest

from tests import plain
from tests.refusing import RefusingTest
from turnedvalleys.errors import BadStretch, BadTurn
from turnedvalleys.rows import Row
from turnedvalleys.stretches import head_at, stretch_of, stretches


class TestStretches(RefusingTest):
    def test_example(self):
        self.assertEqual(stretches(plain.example()), ((1, 3), (1, 5), (2, 3)))
        self.assertEqual(stretches(plain.example((2, 5))), ((1, 5), (2, 3)))
        self.assertEqual(stretches(plain.example(())), ())

    def test_small_rows_by_a_look_at_all_pairs(self):
        for row in plain.rows(5, plain.RULES):
            self.same_kind(stretches(row), plain.stretches(row))
        for row in plain.rows(6, least=6):
            self.same_kind(stretches(row), plain.stretches(row))

    def test_stretch_of_each_stone(self):
        for row in plain.rows(5, plain.RULES):
            for x in range(-1, 7):
                if x in plain.free_heads(row):
                    self.same_kind(stretch_of(row, x), plain.lot_places(row, x))
                else:
                    self.refused(BadTurn, x, stretch_of, row, x)

    def test_stretch_of_what_is_no_free_head(self):
        row = plain.example((2, 5))
        self.assertEqual(stretch_of(row, 2), (2, 3))
        for x in (3, 1, 4, 7, 9, 8, 0, 10, -2, 10 ** 30):
            self.refused(BadTurn, x, stretch_of, row, x)

    def test_head_at_each_pair(self):
        for row in plain.rows(4, plain.RULES):
            for i in range(-2, 7):
                for j in range(-2, 7):
                    if (i, j) in plain.stretches(row):
                        self.same_kind(head_at(row, i, j), max(row.stones[i:j + 1]))
                    else:
                        self.refused(BadStretch, (i, j), head_at, row, i, j)

    def test_head_at_of_pairs_beyond_the_row(self):
        row = Row((1, 2, 3), ends=3)
        self.assertEqual(head_at(row, 0, 2), 3)
        for i, j in ((0, 3), (-3, 2), (-1, 10 ** 30), (2, 0), (0, -1), (1, 1)):
            self.refused(BadStretch, (i, j), head_at, row, i, j)

    def test_names_of_arguments(self):
        row = plain.example()
        self.assertEqual(stretches(row=row), ((1, 3), (1, 5), (2, 3)))
        self.assertEqual(stretch_of(x=5, row=row), (1, 5))
        self.assertEqual(head_at(j=5, i=1, row=row), 5)


if __name__ == "__main__":
    unittest.main()
