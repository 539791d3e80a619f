"""[10]: same, dimension, class_size, normal; [0.3] (a), (b), (d)."""

import unittest
from itertools import permutations

from tests import plain
from tests.refusing import RefusingTest
from tests.strangers import NOT_SAME, UNLIKE
from turnedvalleys.errors import Unlike
from turnedvalleys.kin import class_size, dimension, normal, same
from turnedvalleys.rows import Row
from turnedvalleys.senses import senses


class TestSame(RefusingTest):
    def test_example(self):
        for rule in (None, (2, 5)):
            row = plain.example(rule)
            for begin in ((7, 3, 1, 2, 5, 4), (7, 3, 2, 1, 5, 4), (7, 4, 5, 1, 2, 3), (7, 4, 5, 2, 1, 3)):
                self.assertIs(same(row, Row(begin + (9, 6, 8), rule=rule)), True)
        two = Row((7, 1, 2, 3, 5, 4, 9, 6, 8))
        self.assertIs(same(plain.example(), two), True)
        self.assertIs(same(plain.example((2, 5)), Row(two.stones, rule=(2, 5))), False)
        self.assertIs(same(Row((2, 1), ends=3), Row((1, 2), ends=3)), True)
        self.assertIs(same(Row((2, 1), ends=3, rule=()), Row((1, 2), ends=3, rule=())), False)

    def test_small_rows_against_a_search(self):
        for row in plain.rows(4, plain.RULES):
            found = plain.distances(row)
            for stones in permutations(row.stones):
                self.same_kind(same(row, Row(stones, ends=row.ends, rule=row.rule)), stones in found)

    def test_rows_of_five_stones_against_a_search(self):
        for stones in ((4, 0, 2, 1, 3), (2, 0, 1, 4, 3), (0, 1, 2, 3, 4), (3, 1, 4, 0, 2)):
            for ends in plain.ENDS:
                for rule in plain.RULES:
                    row = Row(stones, ends=ends, rule=rule)
                    found = plain.distances(row)
                    for other in permutations(stones):
                        self.assertEqual(same(row, Row(other, ends=ends, rule=rule)), other in found)

    def test_unlike(self):
        for word, one, two in UNLIKE:
            self.refused(Unlike, word, same, one, two)
            self.refused(Unlike, word, same, two, one)
        for one, two in NOT_SAME:
            self.assertIs(same(one, two), False)

    def test_names_of_arguments(self):
        self.assertIs(same(two=plain.example(), one=plain.example()), True)


class TestClasses(RefusingTest):
    def test_example(self):
        row = plain.example()
        self.assertEqual((dimension(row), class_size(row)), (3, 8))
        self.assertEqual(plain.whole(normal(row)), ((7, 1, 2, 3, 5, 4, 9, 6, 8), 0, None))
        row = plain.example((2, 5))
        self.assertEqual((dimension(row), class_size(row)), (2, 4))
        self.assertEqual(plain.whole(normal(row)), ((7, 3, 2, 1, 5, 4, 9, 6, 8), 0, (2, 5)))

    def test_small_rows_against_a_search(self):
        for row in plain.rows(5, (None, (), (2,), (2, 4))):
            found = plain.distances(row)
            self.same_kind(class_size(row), len(found))
            self.same_kind(dimension(row), len(plain.free_heads(row)))
            self.assertEqual(len(found), 2 ** dimension(row))
            two = normal(row)
            self.assertEqual((two.ends, two.rule), (row.ends, row.rule))
            self.assertIn(two.stones, found)
            self.assertEqual([plain.sense(two, x) for x in plain.free_heads(two)], [0] * dimension(row))

    def test_forty_stones(self):
        row = Row(tuple(range(39, -1, -1)), ends=3)
        self.assertEqual((dimension(row), class_size(row)), (39, 2 ** 39))
        self.assertEqual(senses(normal(row)), (0,) * 39)
        self.assertIs(same(row, normal(row)), True)
        row = Row(tuple(range(39, -1, -1)))
        self.assertEqual((dimension(row), class_size(row)), (0, 1))
        self.assertEqual(normal(row).stones, row.stones)

    def test_names_of_arguments(self):
        row = plain.example()
        self.assertEqual((dimension(row=row), class_size(row=row), normal(row=row).stones[1]), (3, 8, 1))


if __name__ == "__main__":
    unittest.main()
