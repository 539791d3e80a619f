"""[27]: number_of, row_at."""

import unittest

from tests import plain
from tests.refusing import RefusingTest
from turnedvalleys.errors import BadNumber, TooLarge
from turnedvalleys.ranks import number_of, row_at
from turnedvalleys.rows import Row

SIXTEEN = Row(tuple(range(16)), ends=3)


class TestRanks(RefusingTest):
    def test_example(self):
        row = plain.example()
        self.same_kind(number_of(row), 2)
        begins = ((7, 1, 2, 3, 5, 4), (7, 2, 1, 3, 5, 4), (7, 3, 1, 2, 5, 4), (7, 3, 2, 1, 5, 4), (7, 4, 5, 1, 2, 3),
                  (7, 4, 5, 2, 1, 3), (7, 4, 5, 3, 1, 2), (7, 4, 5, 3, 2, 1))
        for k, begin in enumerate(begins):
            self.assertEqual(plain.whole(row_at(row, k)), (begin + (9, 6, 8), 0, None))

    def test_small_classes_there_and_back(self):
        for rows in plain.classes(4, (None, (), (2,), (3,), (2, 4))):
            self.there_and_back(rows)
        for rule in (None, (2, 5), (3,)):
            for rows in plain.classes_of(range(5), 3, rule):
                self.there_and_back(rows)

    def test_larger_classes_there_and_back(self):
        for rule in (None, (2, 5), (3, 9), (2, 3, 8)):
            self.there_and_back(plain.class_of(Row(plain.EXAMPLE, ends=3, rule=rule)))

    def there_and_back(self, rows):
        for k, row in enumerate(rows):
            self.same_kind(number_of(row), k)
            there = row_at(rows[-1 - k], k)
            self.assertIsInstance(there, Row)
            self.assertEqual(plain.whole(there), plain.whole(row))
        for k in (-1, len(rows), len(rows) + 1, -10 ** 30, 10 ** 30):
            self.refused(BadNumber, k, row_at, rows[0], k)

    def test_sixteen_stones(self):
        last = 2 ** 15 - 1
        self.assertEqual(number_of(SIXTEEN), 0)
        self.assertEqual(row_at(SIXTEEN, 0).stones, SIXTEEN.stones)
        self.assertEqual(row_at(SIXTEEN, last).stones, SIXTEEN.stones[::-1])
        self.assertEqual(number_of(Row(SIXTEEN.stones[::-1], ends=3)), last)
        # Half of the rows have 15 ahead, the greatest ones; the row before these has 15 behind.
        self.assertEqual(row_at(SIXTEEN, 2 ** 14).stones, (15,) + tuple(range(15)))
        self.assertEqual(row_at(SIXTEEN, 2 ** 14 - 1).stones, tuple(range(14, -1, -1)) + (15,))
        before = ()
        for k in (0, 1, 2, 77, 4095, 12345, 2 ** 14 - 1, 2 ** 14, 30000, last):
            row = row_at(SIXTEEN, k)
            self.assertEqual(number_of(row), k)
            self.assertLess(before, row.stones)
            before = row.stones
        for k in (-1, last + 1, last + 2):
            self.refused(BadNumber, k, row_at, SIXTEEN, k)

    def test_too_many_stones(self):
        for many in (17, 18, 40):
            for ends in plain.ENDS:
                row = Row(tuple(range(many)), ends=ends)
                self.refused(TooLarge, many, number_of, row)
                for k in (0, -1, 1, 2 ** 40):
                    self.refused(TooLarge, many, row_at, row, k)

    def test_ends_and_rule_stay(self):
        row = Row((2, 0, 1), ends=3, rule=(2, 5))
        self.assertEqual(plain.whole(row_at(row, 1)), ((2, 1, 0), 3, (2, 5)))

    def test_names_of_arguments(self):
        self.assertEqual(number_of(row=plain.example()), 2)
        self.assertEqual(row_at(k=2, row=plain.example()).stones, plain.EXAMPLE)


if __name__ == "__main__":
    unittest.main()
