"""[1]: choose, subset_number, subset_at."""

import unittest
from itertools import combinations

from tests.refusing import RefusingTest
from turnedvalleys.choosing import choose, subset_at, subset_number
from turnedvalleys.errors import BadCount, BadNumber, BadSubset


class TestChoose(RefusingTest):
    def test_small_numbers_against_listing(self):
        for n in range(9):
            for k in range(n + 1):
                self.same_kind(choose(n, k), len(list(combinations(range(n), k))))

    def test_k_out_of_range_gives_zero(self):
        for n in (0, 1, 7, 200):
            for k in (-1, -10 ** 20, n + 1, n + 2, 201, 10 ** 30):
                if not 0 <= k <= n:
                    self.same_kind(choose(n, k), 0)

    def test_n_at_the_limits(self):
        self.assertEqual(choose(0, 0), 1)
        self.assertEqual(choose(200, 0), 1)
        self.assertEqual(choose(200, 200), 1)
        self.assertEqual(choose(200, 199), 200)
        self.assertEqual(choose(200, 2), 19900)
        self.assertEqual(choose(200, 100), choose(199, 99) + choose(199, 100))

    def test_n_out_of_range(self):
        for n in (-1, 201, -10 ** 20, 10 ** 20):
            for k in (-1, 0, 5, 300):
                self.refused(BadCount, n, choose, n, k)

    def test_names_of_arguments(self):
        self.assertEqual(choose(k=2, n=5), 10)


class TestSubsets(RefusingTest):
    def test_against_a_plain_list(self):
        for size in range(8):
            for many in range(size + 1):
                listed = list(combinations(range(size), many))
                self.assertEqual(listed, sorted(listed))
                for number, places in enumerate(listed):
                    self.same_kind(subset_number(size, places), number)
                    self.same_kind(subset_at(size, many, number), places)

    def test_the_empty_subset(self):
        for size in (0, 1, 5, 60):
            self.assertEqual(subset_number(size, ()), 0)
            self.assertEqual(subset_at(size, 0, 0), ())

    def test_great_size(self):
        self.assertEqual(subset_number(60, tuple(range(60))), 0)
        self.assertEqual(subset_at(60, 60, 0), tuple(range(60)))
        self.assertEqual(subset_number(60, (59,)), 59)
        last = choose(60, 30) - 1
        self.assertEqual(subset_at(60, 30, last), tuple(range(30, 60)))
        self.assertEqual(subset_number(60, tuple(range(30, 60))), last)
        for number in (0, 1, 10 ** 9, 10 ** 17, last - 1):
            self.assertEqual(subset_number(60, subset_at(60, 30, number)), number)

    def test_bad_size(self):
        for size in (-1, 61, -10 ** 20, 10 ** 20):
            self.refused(BadCount, size, subset_number, size, ())
            self.refused(BadCount, size, subset_at, size, 0, 0)

    def test_bad_subset_tells_the_first_bad_index(self):
        self.refused(BadSubset, 0, subset_number, 5, (-1,))
        self.refused(BadSubset, 0, subset_number, 5, (5,))
        self.refused(BadSubset, 0, subset_number, 0, (0,))
        self.refused(BadSubset, 1, subset_number, 5, (2, 2))
        self.refused(BadSubset, 1, subset_number, 5, (2, 1, 0))
        self.refused(BadSubset, 1, subset_number, 5, (2, 7, 1))
        self.refused(BadSubset, 2, subset_number, 5, (0, 4, 5))
        self.refused(BadSubset, 5, subset_number, 5, (0, 1, 2, 3, 4, 5))
        self.refused(BadSubset, 1, subset_number, 5, (1, -3))
        self.refused(BadSubset, 0, subset_number, 60, (10 ** 30,))

    def test_bad_many(self):
        for size in (0, 5, 60):
            for many in (-1, size + 1, -10 ** 20, 10 ** 20):
                self.refused(BadCount, many, subset_at, size, many, 0)

    def test_bad_number(self):
        for size, many in ((0, 0), (5, 2), (5, 5), (60, 30)):
            for number in (-1, choose(size, many), choose(size, many) + 1, -10 ** 30, 10 ** 30):
                self.refused(BadNumber, number, subset_at, size, many, number)

    def test_which_comes_first(self):
        self.refused(BadCount, 61, subset_number, 61, (5, 5))
        self.refused(BadCount, -1, subset_at, -1, -2, -3)
        self.refused(BadCount, 61, subset_at, 61, 62, -3)
        self.refused(BadCount, 6, subset_at, 5, 6, -3)
        self.refused(BadCount, -2, subset_at, 5, -2, 100)

    def test_names_of_arguments(self):
        self.assertEqual(subset_number(places=(1, 2), size=3), 2)
        self.assertEqual(subset_at(number=2, many=2, size=3), (1, 2))


if __name__ == "__main__":
    unittest.main()
