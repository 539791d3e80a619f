"""[6]: turned."""

import unittest

from tests import plain
from tests.refusing import RefusingTest
from turnedvalleys.errors import BadTurn
from turnedvalleys.rows import Row
from turnedvalleys.turning import turned


class TestTurned(RefusingTest):
    def test_example(self):
        row = plain.example((2, 5))
        self.assertEqual(turned(row, 2).stones, (7, 3, 2, 1, 5, 4, 9, 6, 8))
        self.assertEqual(turned(row, 5).stones, (7, 4, 5, 2, 1, 3, 9, 6, 8))

    def test_each_stone_of_small_rows(self):
        for row in plain.rows(5, plain.RULES):
            was = plain.whole(row)
            for x in range(-1, 7):
                if x not in plain.free_heads(row):
                    self.refused(BadTurn, x, turned, row, x)
                    continue
                i, j = plain.lot_places(row, x)
                two = turned(row, x)
                self.assertIsInstance(two, Row)
                self.assertEqual(plain.whole(two), plain.whole(plain.turned(row, i, j)))
                self.assertEqual(plain.whole(turned(two, x)), was)
            self.assertEqual(plain.whole(row), was)

    def test_what_is_no_free_head(self):
        row = plain.example((2, 5))
        for x in (3, 1, 4, 7, 9, 8, 0, 10, -2, 10 ** 30):
            self.refused(BadTurn, x, turned, row, x)

    def test_what_stays_and_which_orders_change(self):
        for row in plain.rows(5):
            for x in plain.free_heads(row):
                two = turned(row, x)
                inside = plain.lot(row, x)
                for y in row:
                    self.assertEqual(set(plain.lot(two, y)), set(plain.lot(row, y)))
                    self.assertEqual(plain.parent(two, y), plain.parent(row, y))
                    self.assertEqual("open" in plain.closers(two, y), "open" in plain.closers(row, y))
                    for z in row:
                        changed = (row.place(y) < row.place(z)) != (two.place(y) < two.place(z))
                        self.assertEqual(changed, y != z and y in inside and z in inside)

    def test_names_of_arguments(self):
        self.assertEqual(turned(x=2, row=plain.example()).place(2), 2)


if __name__ == "__main__":
    unittest.main()
