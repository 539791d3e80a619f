"""[19]: side, meets."""

import unittest

from tests import plain
from tests.refusing import RefusingTest
from turnedvalleys.errors import BadHead, BadStone
from turnedvalleys.rows import Row
from turnedvalleys.sides import meets, side
from turnedvalleys.turning import turned


class TestSides(RefusingTest):
    def test_example(self):
        for rule in (None, (2, 5), ()):
            row = plain.example(rule)
            self.assertEqual([side(row, x) for x in (2, 3, 5)], [0, 1, 1])

    def test_small_rows_by_the_words(self):
        for row in plain.rows(5, (None, (2,))):
            known = plain.heads(row)
            for x in range(-1, 6):
                if x in known:
                    self.same_kind(side(row, x), plain.side(row, x))
                else:
                    self.refused(BadHead, x, side, row, x)

    def test_side_and_sense_are_not_the_same(self):
        row = Row((2, 1, 3), ends=3)
        self.assertEqual((side(row, 2), plain.sense(row, 2)), (1, 1))
        row = Row((3, 2, 1), ends=3)
        self.assertEqual((side(row, 2), plain.sense(row, 2)), (1, 0))

    def test_a_turn_changes_the_sides_of_the_heads_in_its_lot(self):
        for row in plain.rows(5, (None, (2, 4))):
            for x in plain.free_heads(row):
                two = turned(row, x)
                for y in plain.heads(row):
                    self.assertEqual(side(two, y) != side(row, y), y in plain.lot(row, x))

    def test_forty_stones(self):
        row = Row(tuple(range(40)), ends=3)
        self.assertEqual([side(row, x) for x in range(1, 40)], [0] * 39)
        self.refused(BadHead, 0, side, row, 0)
        self.refused(BadHead, 40, side, row, 40)

    def test_strangers_records_and_leaves(self):
        for x in (7, 9, 8, 1, 4, 6, 0, 10, -2, 10 ** 30, -10 ** 30):
            self.refused(BadHead, x, side, plain.example(), x)
        self.refused(BadHead, 5, side, Row((5,), ends=3), 5)

    def test_names_of_arguments(self):
        self.assertEqual(side(x=5, row=plain.example()), 1)


class TestMeets(RefusingTest):
    def test_example(self):
        row = plain.example()
        self.assertEqual(meets(row, 1, 4), 5)
        self.assertEqual(meets(row, 9, 7), 9)
        self.assertEqual(meets(row, 6, 8), 8)
        self.assertEqual(meets(row, 1, 6), 9)

    def test_small_rows_by_the_words(self):
        for stones in plain.orders(5):
            row = Row(stones, ends=2)
            for x in stones:
                self.same_kind(meets(row, x, x), x)
                for y in stones:
                    self.same_kind(meets(row, x, y), plain.meets(row, x, y))

    def test_forty_stones_and_stones_below_zero(self):
        row = Row(tuple(range(-40, 0)))
        self.assertEqual([meets(row, -40, y) for y in row], list(row))
        self.assertEqual([meets(row, -1, y) for y in row], [-1] * 40)

    def test_the_first_stranger_first(self):
        row = plain.example()
        for x in (0, 10, -7, 10 ** 30):
            self.refused(BadStone, x, meets, row, x, 1)
            self.refused(BadStone, x, meets, row, 1, x)
            self.refused(BadStone, x, meets, row, x, 11)
            self.refused(BadStone, x, meets, row, x, x)
            self.refused(BadStone, 11, meets, row, 11, x)

    def test_names_of_arguments(self):
        self.assertEqual(meets(y=4, x=1, row=plain.example()), 5)


if __name__ == "__main__":
    unittest.main()
