"""[14]: shortest_count, shortest_at, runs_of, ball."""

import unittest
from itertools import permutations, product
from math import comb, factorial

from tests import plain
from tests.refusing import RefusingTest
from tests.strangers import NOT_SAME, UNLIKE, refuses_strangers
from turnedvalleys.errors import BadCount, BadNumber
from turnedvalleys.orders import ball, runs_of, shortest_at, shortest_count
from turnedvalleys.rows import Row
from turnedvalleys.runs import walked

C = Row((7, 4, 5, 1, 2, 3, 9, 6, 8))
LONG = Row(tuple(range(40)), ends=3)
FAR = walked(LONG, tuple(range(1, 40)))


def runs_of_bits(f, h, k):
    """How many words of k of f letters have h given letters an odd number of times and the others an even one.

    Found by the sum of products of signs over all words of bits, grouped by how many are set.
    """
    total = 0
    for a in range(h + 1):
        for b in range(f - h + 1):
            total += (-1) ** a * comb(h, a) * comb(f - h, b) * (f - 2 * (a + b)) ** k
    return total // 2 ** f


class TestShortest(RefusingTest):
    def test_example(self):
        row = plain.example()
        self.assertEqual(shortest_count(row, C), 2)
        self.assertEqual([shortest_at(row, C, k) for k in (0, 1)], [(2, 5), (5, 2)])

    def test_all_of_small_pairs(self):
        row = Row((0, 1, 2, 3, 4), ends=3)
        for heads in ((), (3,), (1, 4), (1, 2, 4), (1, 2, 3, 4)):
            two = walked(row, heads)
            listed = sorted(permutations(heads))
            self.same_kind(shortest_count(row, two), len(listed))
            for k, run in enumerate(listed):
                self.same_kind(shortest_at(row, two, k), run)
                self.assertEqual(plain.walked(row, run), two.stones)
            for k in (-1, len(listed), len(listed) + 5, -10 ** 50, 10 ** 50):
                self.refused(BadNumber, k, shortest_at, row, two, k)

    def test_against_a_search(self):
        for row in plain.rows(4, (None, (2, 4))):
            for stones, many in plain.distances(row).items():
                two = Row(stones, ends=row.ends, rule=row.rule)
                listed = [run for run in product(plain.free_heads(row), repeat=many)
                          if plain.walked(row, run) == stones]
                self.assertEqual(shortest_count(row, two), len(listed))
                self.assertEqual([shortest_at(row, two, k) for k in range(len(listed))], sorted(listed))

    def test_great_ones_by_counting(self):
        many = factorial(39)
        self.assertEqual(shortest_count(LONG, FAR), many)
        self.assertEqual(shortest_at(LONG, FAR, 0), tuple(range(1, 40)))
        self.assertEqual(shortest_at(LONG, FAR, many - 1), tuple(range(39, 0, -1)))
        self.assertEqual(shortest_at(LONG, FAR, factorial(38)), (2, 1) + tuple(range(3, 40)))
        k = 5 * factorial(38) + 37 * factorial(37) + 1
        self.assertEqual(shortest_at(LONG, FAR, k)[:3], (6, 39, 1))
        self.assertEqual(shortest_at(LONG, FAR, k)[-2:], (38, 37))
        self.refused(BadNumber, many, shortest_at, LONG, FAR, many)
        self.refused(BadNumber, -1, shortest_at, LONG, FAR, -1)

    def test_equal_rows(self):
        self.assertEqual(shortest_count(C, C), 1)
        self.same_kind(shortest_at(C, C, 0), ())
        self.refused(BadNumber, 1, shortest_at, C, C, 1)

    def test_rows_of_other_classes(self):
        refuses_strangers(self, shortest_count)
        for k in (0, -1, 10 ** 30):
            refuses_strangers(self, shortest_at, k)

    def test_names_of_arguments(self):
        self.assertEqual(shortest_count(two=C, one=plain.example()), 2)
        self.assertEqual(shortest_at(k=1, two=C, one=plain.example()), (5, 2))


class TestRunsOf(RefusingTest):
    def test_example(self):
        row = plain.example()
        self.assertEqual([runs_of(row, C, k) for k in range(5)], [0, 0, 2, 0, 20])
        self.assertEqual(ball(row), (1, 3, 3, 1))

    def test_against_a_plain_count(self):
        for row in plain.rows(4, (None, (2, 4), ()), least=2):
            free = plain.free_heads(row)
            for k in range(5):
                ends = [plain.walked(row, run) for run in product(free, repeat=k)]
                for stones in plain.distances(row):
                    two = Row(stones, ends=row.ends, rule=row.rule)
                    self.same_kind(runs_of(row, two, k), ends.count(stones))

    def test_no_turns(self):
        self.assertEqual(runs_of(C, C, 0), 1)
        self.assertEqual(runs_of(plain.example(), C, 0), 0)
        self.assertEqual([runs_of(Row((1,)), Row((1,)), k) for k in (0, 1, 2, 200)], [1, 0, 0, 0])

    def test_two_hundred_turns_and_great_dimensions(self):
        for heads in ((), (7,), tuple(range(1, 40)), tuple(range(2, 40, 3))):
            two = walked(LONG, heads)
            for k in (0, 1, 2, 13, 39, 41, 199, 200):
                self.assertEqual(runs_of(LONG, two, k), runs_of_bits(39, len(heads), k))

    def test_k_out_of_range(self):
        for k in (-1, 201, -10 ** 30, 10 ** 30):
            self.refused(BadCount, k, runs_of, C, C, k)
            for _, one, two in UNLIKE:
                self.refused(BadCount, k, runs_of, one, two, k)
            for one, two in NOT_SAME:
                self.refused(BadCount, k, runs_of, one, two, k)

    def test_rows_of_other_classes(self):
        refuses_strangers(self, runs_of, 0)
        refuses_strangers(self, runs_of, 200)

    def test_ball_against_a_search(self):
        for row in plain.rows(5, (None, (2, 4), ())):
            found = list(plain.distances(row).values())
            self.same_kind(ball(row), tuple(found.count(k) for k in range(max(found) + 1)))

    def test_ball_of_forty_stones(self):
        self.assertEqual(ball(LONG), tuple(comb(39, k) for k in range(40)))
        self.assertEqual(ball(Row(tuple(range(40)))), (1,))
        self.assertEqual(len(ball(Row(tuple(range(40)), ends=1))), 39)

    def test_names_of_arguments(self):
        self.assertEqual(runs_of(k=2, two=C, one=plain.example()), 2)
        self.assertEqual(ball(row=plain.example()), (1, 3, 3, 1))


if __name__ == "__main__":
    unittest.main()
