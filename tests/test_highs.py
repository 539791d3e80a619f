"""[31]: high, lot_row."""

import unittest
from collections import Counter

from tests import plain
from tests.refusing import RefusingTest
from turnedvalleys.errors import BadSize, BadStone
from turnedvalleys.highs import high, lot_row
from turnedvalleys.rows import Row


class TestHigh(RefusingTest):
    def test_example(self):
        self.assertEqual(plain.whole(high(plain.example(), 3)), ((7, 3, 5, 4, 9, 6, 8), 0, None))

    def test_bounds(self):
        row = Row((30, -10, 20, 0), ends=2, rule=(2, 3))
        for least, stones in ((-10 ** 30, row.stones), (-11, row.stones), (-10, row.stones), (-9, (30, 20, 0)),
                              (0, (30, 20, 0)), (1, (30, 20)), (19, (30, 20)), (20, (30, 20)), (21, (30,)),
                              (30, (30,))):
            self.assertEqual(plain.whole(high(row, least)), (stones, 2, None))
        for least in (31, 32, 10 ** 30):
            self.refused(BadSize, 0, high, row, least)
        self.refused(BadSize, 0, high, Row((5,)), 6)
        self.assertEqual(high(Row((5,)), 5).stones, (5,))

    def test_ends_stay_and_the_rule_goes(self):
        for ends in plain.ENDS:
            for rule in plain.RULES:
                row = Row((3, 1, 2, 4), ends=ends, rule=rule)
                for least in (0, 2, 4):
                    found = high(row, least)
                    self.assertIsInstance(found, Row)
                    self.assertEqual(plain.whole(found), (tuple(x for x in row.stones if x >= least), ends, None))

    def test_heads_and_senses(self):
        for row in plain.rows(5):
            for least in range(len(row.stones)):
                part = high(row, least)
                for x in plain.heads(part):
                    self.assertTrue(plain.is_head(row, x))
                    self.assertEqual(plain.sense(part, x), plain.sense(row, x))

    def test_high_rows_of_a_class_are_a_class(self):
        for rows in plain.classes(5, least=2):
            for least in range(1, len(rows[0].stones)):
                found = Counter(high(row, least).stones for row in rows)
                part = plain.class_of(high(rows[0], least))
                self.assertEqual(sorted(found), [row.stones for row in part])
                self.assertEqual(set(found.values()), {len(rows) // len(part)})

    def test_names_of_arguments(self):
        self.assertEqual(high(least=8, row=plain.example()).stones, (9, 8))


class TestLotRow(RefusingTest):
    def test_example(self):
        for rule in (None, (2, 5), ()):
            row = plain.example(rule)
            self.assertEqual(plain.whole(lot_row(row, 5)), ((3, 1, 2, 5, 4), 3, rule))
            self.assertEqual(plain.whole(lot_row(row, 7)), ((7, 3, 1, 2, 5, 4), 2, rule))
            self.assertEqual(plain.whole(lot_row(row, 8)), ((6, 8), 1, rule))
            self.assertEqual(plain.whole(lot_row(row, 9)), (plain.EXAMPLE, 0, rule))
            self.assertEqual(plain.whole(lot_row(row, 1)), ((1,), 3, rule))

    def test_walls_of_the_row(self):
        for ends, said in ((0, (2, 1)), (1, (3, 1)), (2, (2, 3)), (3, (3, 3))):
            row = Row((1, 3, 2), ends=ends)
            self.assertEqual((lot_row(row, 1).ends, lot_row(row, 2).ends, lot_row(row, 3).ends), said + (ends,))

    def test_small_rows_by_the_words(self):
        for row in plain.rows(5, (None, (2,), (2, 4), ())):
            for x in row.stones:
                found = lot_row(row, x)
                before, after = plain.closers(row, x)
                ends = (before != "open") + 2 * (after != "open")
                self.assertIsInstance(found, Row)
                self.assertEqual(plain.whole(found), (plain.lot(row, x), ends, row.rule))
                self.assertIs(found.ends.__class__, int)
                self.check_heads(row, x, found)

    def check_heads(self, row, x, part):
        self.assertEqual(plain.heads(part), tuple(y for y in plain.heads(row) if y in part.stones))
        for y in plain.heads(part):
            said = plain.side(row, x) if y == x else plain.sense(row, y)
            self.assertEqual(plain.sense(part, y), said)

    def test_forty_stones(self):
        row = Row(tuple(range(40)), ends=1, rule=(2, 40))
        for x in range(40):
            self.assertEqual(plain.whole(lot_row(row, x)), (tuple(range(x + 1)), 1 if x == 39 else 3, (2, 40)))

    def test_strangers(self):
        for x in (0, 10, -7, 10 ** 30, -10 ** 30):
            self.refused(BadStone, x, lot_row, plain.example(), x)

    def test_names_of_arguments(self):
        self.assertEqual(lot_row(x=8, row=plain.example()).stones, (6, 8))


if __name__ == "__main__":
    unittest.main()
