"""[16]: tour, tour_row, tour_number."""

import unittest

from tests import plain
from tests.refusing import RefusingTest
from tests.strangers import refuses_strangers
from turnedvalleys.errors import BadNumber, TooLarge
from turnedvalleys.rows import Row
from turnedvalleys.tours import tour, tour_number, tour_row
from turnedvalleys.turning import turned

LONG = Row(tuple(range(40)), ends=3)


def of_dimension(f):
    """Rows with so many free heads."""
    yield Row(tuple(range(f + 1)), ends=3)
    yield Row(tuple(range(f + 2)), ends=1)
    yield Row((50,) + tuple(range(f, -1, -1)) + (99, 98), ends=0)
    if f > 0:
        yield Row(tuple(range(-20, 0)), ends=3, rule=tuple(range(3, f + 3)))


class TestTours(RefusingTest):
    def test_example(self):
        row = plain.example()
        self.same_kind(tour(row), (2, 3, 2, 5, 2, 3, 2))
        self.assertEqual(plain.whole(tour_row(row, 3)), ((7, 2, 1, 3, 5, 4, 9, 6, 8), 0, None))
        self.assertEqual([x for x in (2, 3, 5) if plain.sense(tour_row(row, 3), x) != plain.sense(row, x)], [3])

    def test_small_classes_turn_by_turn(self):
        for rows in plain.classes(4, plain.RULES):
            for row in rows[::3]:
                self.check_tour(row)

    def test_dimensions_up_to_twelve(self):
        for f in range(9):
            for row in of_dimension(f):
                self.assertEqual(len(plain.free_heads(row)), f)
                self.check_tour(row)

    def check_tour(self, row):
        """Each row of the class comes just once, and the last one is one turn from the first."""
        free = plain.free_heads(row)
        run = tour(row)
        self.assertIs(run.__class__, tuple)
        self.assertEqual(len(run), 2 ** len(free) - 1)
        now = row
        met = {row.stones}
        for k in range(2 ** len(free)):
            there = tour_row(row, k)
            self.assertEqual(plain.whole(there), plain.whole(now))
            self.same_kind(tour_number(row, there), k)
            if k < len(run):
                now = turned(now, run[k])
                met.add(now.stones)
                # The head of turn number k + 1 has the index that tells how often 2 divides k + 1.
                t = free.index(run[k])
                self.assertEqual((k + 1) % 2 ** (t + 1), 2 ** t)
        self.assertEqual(len(met), 2 ** len(free))
        if free:
            self.assertEqual(turned(now, max(free)).stones, row.stones)

    def test_twelve_and_thirteen(self):
        for row in of_dimension(12):
            run = tour(row)
            now = row
            met = {row.stones}
            for x in run:
                now = turned(now, x)
                met.add(now.stones)
            self.assertEqual((len(run), len(met)), (4095, 4096))
            self.assertEqual(tour_row(row, 4095).stones, now.stones)
            self.assertEqual(tour_number(row, now), 4095)
        for f in (13, 14, 15):
            for row in of_dimension(f):
                self.refused(TooLarge, f, tour, row)
        self.refused(TooLarge, 39, tour, LONG)

    def test_dimension_nought(self):
        for row in (Row((5,), ends=3), Row((2, 1)), plain.example(())):
            self.same_kind(tour(row), ())
            self.assertEqual(plain.whole(tour_row(row, 0)), plain.whole(row))
            self.assertEqual(tour_number(row, row), 0)
            for k in (-1, 1, 2):
                self.refused(BadNumber, k, tour_row, row, k)

    def test_great_dimensions(self):
        for row in (LONG, Row(tuple(range(40)), ends=1), Row(tuple(range(39, -1, -1)), ends=3)):
            free = plain.free_heads(row)
            f = len(free)
            for k in (0, 1, 2, 3, 12345678901, 2 ** 37 + 5, 2 ** (f - 1) - 1, 2 ** (f - 1), 2 ** f - 2, 2 ** f - 1):
                there = tour_row(row, k)
                unlike = [t for t in range(f) if (k // 2 ** t) % 2 != (k // 2 ** (t + 1)) % 2]
                self.assertEqual(there.stones, plain.walked(row, [free[t] for t in unlike]))
                self.assertEqual(tour_number(row, there), k)
            for k in (-1, 2 ** f, 2 ** f + 1, -10 ** 30, 10 ** 30):
                self.refused(BadNumber, k, tour_row, row, k)

    def test_last_number_of_small_ones(self):
        for row in of_dimension(3):
            for k in (-1, 8, 9, -8):
                self.refused(BadNumber, k, tour_row, row, k)

    def test_ends_and_rule_stay(self):
        row = Row((4, 1, 0, 2, 3), ends=3, rule=(2, 5))
        self.assertEqual(plain.whole(tour_row(row, 1)), ((4, 0, 1, 2, 3), 3, (2, 5)))

    def test_rows_of_other_classes(self):
        refuses_strangers(self, tour_number)

    def test_names_of_arguments(self):
        row = plain.example()
        self.assertEqual(len(tour(row=row)), 7)
        self.assertEqual(tour_row(k=1, row=row).stones, plain.walked(row, (2,)))
        self.assertEqual(tour_number(other=tour_row(row, 5), row=row), 5)


if __name__ == "__main__":
    unittest.main()
