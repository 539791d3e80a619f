"""[8]: sense, senses."""

import unittest

from tests import plain
from tests.refusing import RefusingTest
from turnedvalleys.errors import BadHead
from turnedvalleys.rows import Row
from turnedvalleys.senses import sense, senses
from turnedvalleys.turning import turned


class TestSenses(RefusingTest):
    def test_example(self):
        row = plain.example()
        self.assertEqual(senses(row), (1, 1, 0))
        self.assertEqual([sense(row, x) for x in (2, 3, 5)], [1, 1, 0])
        self.assertEqual(senses(plain.example((2, 5))), (1, 1, 0))

    def test_the_greatest_stone_between_two_walls(self):
        self.assertEqual(senses(Row((2, 1), ends=3)), (1,))
        self.assertEqual(senses(Row((1, 2), ends=3)), (0,))
        self.assertEqual(sense(Row((2, 1, 9), ends=3), 9), 0)
        self.assertEqual(sense(Row((9, 2, 1), ends=3), 9), 1)
        self.assertEqual(sense(Row((1, 9, 2), ends=3), 9), 1)

    def test_small_rows_by_the_words(self):
        for row in plain.rows(5, (None, (2,))):
            known = plain.heads(row)
            self.same_kind(senses(row), tuple(plain.sense(row, x) for x in known))
            for x in range(-1, 6):
                if x in known:
                    self.same_kind(sense(row, x), plain.sense(row, x))
                else:
                    self.refused(BadHead, x, sense, row, x)

    def test_no_heads(self):
        self.assertEqual(senses(Row((1, 2))), ())
        for x in (7, 9, 8, 1, 4, 6, 0, 10, -2, 10 ** 30):
            self.refused(BadHead, x, sense, plain.example(), x)

    def test_a_held_head_has_a_sense(self):
        self.assertEqual(sense(plain.example(()), 3), 1)

    def test_a_turn_changes_its_own_sense_alone(self):
        for row in plain.rows(5, (None, (2, 4))):
            for x in plain.free_heads(row):
                two = turned(row, x)
                for y in plain.heads(row):
                    self.assertEqual(sense(two, y) != sense(row, y), x == y)

    def test_names_of_arguments(self):
        self.assertEqual(sense(x=5, row=plain.example()), 0)
        self.assertEqual(senses(row=plain.example()), (1, 1, 0))


if __name__ == "__main__":
    unittest.main()
