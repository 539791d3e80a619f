"""[11]: unlike_heads, fewest, run_to; [0.3] (a)."""

import unittest

from tests import plain
from tests.refusing import RefusingTest
from tests.strangers import refuses_strangers
from turnedvalleys.fewest import fewest, run_to, unlike_heads
from turnedvalleys.rows import Row
from turnedvalleys.runs import walked

B = Row((7, 4, 5, 2, 1, 3, 9, 6, 8))
C = Row((7, 4, 5, 1, 2, 3, 9, 6, 8))


class TestFewest(RefusingTest):
    def test_example(self):
        row = plain.example()
        self.assertEqual(unlike_heads(row, C), (2, 5))
        self.assertEqual(fewest(row, C), 2)
        self.assertEqual(run_to(row, C), (2, 5))
        self.assertEqual(unlike_heads(row, B), (5,))
        self.assertEqual(unlike_heads(B, C), (2,))

    def test_small_rows_against_a_search(self):
        for row in plain.rows(4, plain.RULES):
            for stones, many in plain.distances(row).items():
                two = Row(stones, ends=row.ends, rule=row.rule)
                self.same_kind(fewest(row, two), many)
                run = run_to(row, two)
                self.assertEqual(len(run), many)
                self.assertEqual(plain.walked(row, run), stones)
                self.same_kind(run, tuple(sorted(run)))
                unlike = [x for x in plain.free_heads(row) if plain.sense(row, x) != plain.sense(two, x)]
                self.same_kind(unlike_heads(row, two), tuple(unlike))
                self.assertEqual(run, unlike_heads(two, row))

    def test_rows_of_five_stones_against_a_search(self):
        for row in plain.rows(5, least=5):
            for stones, many in plain.distances(row).items():
                run = run_to(row, Row(stones, ends=row.ends))
                self.assertEqual(len(run), many)
                self.assertEqual(walked(row, run).stones, stones)

    def test_with_more_walls_and_more_lengths(self):
        for row in plain.rows(4, ((2,), (2, 4))):
            for stones, many in plain.distances(row).items():
                for ends in plain.ENDS:
                    if ends & row.ends == row.ends:
                        for rule in (row.rule, (2, 3, 4), None):
                            one, two = (Row(those, ends=ends, rule=rule) for those in (row.stones, stones))
                            self.assertEqual(fewest(one, two), many)

    def test_forty_stones(self):
        row = Row(tuple(range(40)), ends=3)
        two = walked(row, tuple(range(1, 40)))
        self.assertEqual(run_to(row, two), tuple(range(1, 40)))
        self.assertEqual(fewest(row, two), 39)
        self.assertEqual(walked(row, run_to(row, two)).stones, two.stones)

    def test_equal_rows(self):
        self.assertEqual(unlike_heads(C, C), ())
        self.assertEqual(fewest(C, C), 0)
        self.assertEqual(run_to(C, C), ())

    def test_rows_of_other_classes(self):
        refuses_strangers(self, unlike_heads)
        refuses_strangers(self, fewest)
        refuses_strangers(self, run_to)

    def test_names_of_arguments(self):
        for asked, said in ((unlike_heads, (2,)), (fewest, 1), (run_to, (2,))):
            self.assertEqual(asked(two=B, one=C), said)


if __name__ == "__main__":
    unittest.main()
