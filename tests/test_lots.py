"""[3]: lot, closers."""

import unittest

from tests import plain
from tests.refusing import RefusingTest
from turnedvalleys.errors import BadStone
from turnedvalleys.lots import closers, lot
from turnedvalleys.rows import Row


class TestLots(RefusingTest):
    def test_example(self):
        row = plain.example()
        lots = {x: lot(row, x) for x in row}
        self.assertEqual(lots, {
            7: (7, 3, 1, 2, 5, 4), 3: (3, 1, 2), 1: (1,), 2: (1, 2), 5: (3, 1, 2, 5, 4), 4: (4,),
            9: plain.EXAMPLE, 6: (6,), 8: (6, 8)})
        self.assertEqual(closers(row, 2), (3, 5))
        self.assertEqual(closers(row, 3), (7, 5))
        self.assertEqual(closers(row, 7), ("open", 9))
        self.assertEqual(closers(row, 8), (9, "open"))
        self.assertEqual(closers(row, 9), ("open", "open"))

    def test_one_stone_and_the_four_ends(self):
        said = {0: ("open", "open"), 1: ("wall", "open"), 2: ("open", "wall"), 3: ("wall", "wall")}
        for ends in plain.ENDS:
            for x in (0, 5, -5):
                self.assertEqual(closers(Row((x,), ends=ends), x), said[ends])
                self.assertEqual(lot(Row((x,), ends=ends), x), (x,))

    def test_stones_below_zero(self):
        row = Row((-1, -5, -3), ends=2)
        self.assertEqual(lot(row, -3), (-5, -3))
        self.assertEqual(closers(row, -3), (-1, "wall"))
        self.assertEqual(closers(row, -5), (-1, -3))

    def test_small_rows_by_the_definition(self):
        for row in plain.rows(5):
            for x in row:
                self.same_kind(lot(row, x), plain.lot(row, x))
                self.same_kind(closers(row, x), plain.closers(row, x))

    def test_one_lot_in_the_other(self):
        for stones in plain.orders(6):
            row = Row(stones)
            lots = {x: lot(row, x) for x in row}
            for x in row:
                for y in range(x + 1, len(stones)):
                    i, j = sorted((row.place(x), row.place(y)))
                    within = max(stones[i:j + 1]) == y
                    self.assertEqual(x in lots[y], within)
                    self.assertEqual(set(lots[x]) <= set(lots[y]), within)
                    self.assertEqual(set(lots[x]).isdisjoint(lots[y]), not within)

    def test_long_rows(self):
        row = Row(tuple(range(40)), ends=3)
        self.assertEqual(lot(row, 39), tuple(range(40)))
        self.assertEqual(lot(row, 17), tuple(range(18)))
        self.assertEqual(closers(row, 17), ("wall", 18))

    def test_no_stones(self):
        for x in (0, 10, -7, 10 ** 30):
            self.refused(BadStone, x, lot, plain.example(), x)
            self.refused(BadStone, x, closers, plain.example(), x)

    def test_names_of_arguments(self):
        self.assertEqual(lot(x=2, row=plain.example()), (1, 2))
        self.assertEqual(closers(x=2, row=plain.example()), (3, 5))


if __name__ == "__main__":
    unittest.main()
