"""[9]: row_of."""

import unittest
from itertools import product

from tests import plain
from tests.refusing import RefusingTest
from tests.values import ANY
from turnedvalleys.building import row_of
from turnedvalleys.errors import BadEnds, BadRule, BadSenses, BadShape
from turnedvalleys.rows import Row
from turnedvalleys.senses import senses
from turnedvalleys.shapes import shape

EXAMPLE_SHAPE = shape(plain.example())


class TestRowOf(RefusingTest):
    def test_example(self):
        self.assertEqual(plain.whole(row_of(EXAMPLE_SHAPE, (1, 1, 0))), (plain.EXAMPLE, 0, None))
        self.assertEqual(row_of(EXAMPLE_SHAPE, (0, 0, 0)).stones, (7, 1, 2, 3, 5, 4, 9, 6, 8))

    def test_every_small_row_comes_back(self):
        for row in plain.rows(5, (None, (), (2, 3))):
            two = row_of(plain.shape(row), tuple(plain.sense(row, x) for x in plain.heads(row)),
                         ends=row.ends, rule=row.rule)
            self.assertIsInstance(two, Row)
            self.assertEqual(plain.whole(two), plain.whole(row))

    def test_every_word_of_bits_is_told_back(self):
        for row in plain.rows(5):
            triples = shape(row)
            for bits in product((0, 1), repeat=len(plain.heads(row))):
                two = row_of(triples, bits, ends=row.ends)
                self.assertEqual(senses(two), bits)
                self.assertEqual(shape(two), triples)

    def test_forty_stones(self):
        row = Row(tuple(range(40)), ends=3)
        for bits in ((0,) * 39, (1,) * 39, (0, 1, 1) * 13):
            two = row_of(shape(row), bits, ends=3)
            self.assertEqual(senses(two), bits)
            self.assertEqual(shape(two), shape(row))

    def test_the_rule_becomes_the_rows_rule(self):
        two = row_of(EXAMPLE_SHAPE, (1, 0, 1), rule=(2, 40))
        self.assertEqual(plain.whole(two), (row_of(EXAMPLE_SHAPE, (1, 0, 1)).stones, 0, (2, 40)))

    def test_bad_ends_and_rules(self):
        for ends in (-1, 4, 10 ** 20):
            self.refused(BadEnds, ends, row_of, EXAMPLE_SHAPE, (1, 1, 0), ends=ends)
        self.refused(BadRule, 0, row_of, EXAMPLE_SHAPE, (1, 1, 0), rule=(1, 2))
        self.refused(BadRule, 1, row_of, EXAMPLE_SHAPE, (1, 1, 0), rule=(40, 41))
        self.refused(BadRule, 1, row_of, EXAMPLE_SHAPE, (1, 1, 0), rule=(4, 4))

    def test_bad_shapes(self):
        for ends in (1, 2, 3):
            self.refused(BadShape, 0, row_of, EXAMPLE_SHAPE, (1, 1, 0), ends=ends)
        for value in ANY + ((), EXAMPLE_SHAPE[:-1], EXAMPLE_SHAPE * 5):
            self.refused(BadShape, 0, row_of, value, (1, 1, 0))

    def test_bad_senses(self):
        for bits in ((), (1,), (1, 1), (1, 1, 0, 0), (2, 2, 2, 2), (0,) * 100):
            self.refused(BadSenses, len(bits), row_of, EXAMPLE_SHAPE, bits)
        self.refused(BadSenses, 1, row_of, ((5, None, -1),), (0,))
        self.refused(BadSenses, 0, row_of, EXAMPLE_SHAPE, (2, 0, -1))
        self.refused(BadSenses, 1, row_of, EXAMPLE_SHAPE, (0, -1, 5))
        self.refused(BadSenses, 2, row_of, EXAMPLE_SHAPE, (0, 1, 10 ** 30))

    def test_which_comes_first(self):
        self.refused(BadEnds, 4, row_of, (), (2,), ends=4, rule=(1,))
        self.refused(BadRule, 0, row_of, (), (2,), ends=3, rule=(1,))
        self.refused(BadShape, 0, row_of, EXAMPLE_SHAPE[:-1], (2,))
        self.refused(BadSenses, 1, row_of, EXAMPLE_SHAPE, (7,))

    def test_names_of_arguments(self):
        self.assertEqual(row_of(bits=(1,), triples=((1, 2, -1), (2, None, -1)), rule=(), ends=3).stones, (2, 1))
        with self.assertRaises(TypeError):
            row_of(EXAMPLE_SHAPE, (1, 1, 0), 0)


if __name__ == "__main__":
    unittest.main()
