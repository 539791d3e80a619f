"""[1]: zigzag."""

import unittest
from itertools import permutations

from tests.refusing import RefusingTest
from turnedvalleys.choosing import choose
from turnedvalleys.errors import BadCount
from turnedvalleys.zigzags import zigzag


def rises_and_falls(stones):
    """Whether the stones rise, fall, rise and so on, beginning with a rise."""
    return all((stones[i] < stones[i + 1]) == (i % 2 == 0) for i in range(len(stones) - 1))


class TestZigzag(RefusingTest):
    def test_first_numbers(self):
        self.assertEqual([zigzag(k) for k in range(9)], [1, 1, 1, 2, 5, 16, 61, 272, 1385])

    def test_counts_of_zigzag_rows(self):
        for k in range(8):
            self.same_kind(zigzag(k), sum(rises_and_falls(row) for row in permutations(range(k))))

    def test_the_sum_at_the_greatest_index(self):
        found = [zigzag(k) for k in range(200)]
        self.assertEqual(zigzag(200), sum(choose(198, j - 1) * found[j] * found[199 - j] for j in range(1, 200)))

    def test_out_of_range(self):
        for k in (-1, 201, -10 ** 20, 10 ** 20):
            self.refused(BadCount, k, zigzag, k)

    def test_name_of_argument(self):
        self.assertEqual(zigzag(k=4), 5)


if __name__ == "__main__":
    unittest.main()
