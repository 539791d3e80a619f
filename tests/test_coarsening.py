"""[38]: coarse, and what holds of like rows beside Rows."""

import unittest
from itertools import permutations, product

from tests import likeplain, plain
from tests.refusing import RefusingTest
from turnedvalleys.coarsening import coarse
from turnedvalleys.errors import BadCuts, BadSize
from turnedvalleys.fewest import fewest
from turnedvalleys.kin import class_size
from turnedvalleys.likedeeds import like_turned
from turnedvalleys.likefewest import like_fewest
from turnedvalleys.likerows import LikeRow, like_stretches
from turnedvalleys.rows import Row
from turnedvalleys.settling import like_same, like_size, settled
from turnedvalleys.stretches import head_at, stretches
from turnedvalleys.turning import turned


class TestCoarse(RefusingTest):
    def test_where_cuts_stand(self):
        row = Row((30, -10, 20, 0), ends=2, rule=(2, 3))
        for cuts, said in (((), (0, 0, 0, 0)), ((20,), (1, 0, 1, 0)), ((19,), (1, 0, 1, 0)), ((21,), (1, 0, 0, 0)),
                           ((-10,), (1, 1, 1, 1)), ((-11,), (1, 1, 1, 1)), ((-9,), (1, 0, 1, 1)), ((31,), (0, 0, 0, 0)),
                           ((30,), (1, 0, 0, 0)), ((0, 20), (2, 0, 2, 1)), ((0, 1, 2), (3, 0, 3, 1)),
                           ((-10 ** 30, 5, 10 ** 30), (2, 1, 2, 1)), ((40, 50, 60), (0, 0, 0, 0)),
                           ((-10, 0, 20, 30), (4, 1, 3, 2)), (tuple(range(-50, 50)), (81, 41, 71, 51))):
            found = coarse(row, cuts)
            self.assertIsInstance(found, LikeRow)
            self.assertEqual(likeplain.whole(found), (said, 2))

    def test_ends(self):
        for ends in plain.ENDS:
            self.same_kind(coarse(Row((1, 2), ends=ends), (2,)).ends, ends)

    def test_cuts_that_do_not_rise(self):
        row = Row((1, 2, 3))
        for bad in (5, 4, -10 ** 30):
            for i in range(1, 5):
                cuts = tuple(range(6 - i, 6)) + (bad, 7, 7)
                self.refused(BadCuts, i, coarse, row, cuts)
        self.refused(BadCuts, 1, coarse, row, (1, 1))
        self.refused(BadCuts, 1, coarse, row, (1, 0, 0))
        self.refused(BadCuts, 2, coarse, row, (-5, 10 ** 30, 10 ** 30))

    def test_how_many_stones(self):
        self.assertEqual(coarse(Row(tuple(range(24))), (12,)).stones, (0,) * 12 + (1,) * 12)
        for n in (25, 40):
            row = Row(tuple(range(n)))
            self.refused(BadSize, n, coarse, row, ())
            self.refused(BadSize, n, coarse, row, (3, 5))
            self.refused(BadCuts, 1, coarse, row, (3, 3))

    def test_names_of_arguments(self):
        self.assertEqual(coarse(cuts=(2,), row=Row((1, 2))).stones, (0, 1))


class TestWhatHolds(RefusingTest):
    def test_like_stretches_of_the_coarse_row_turned_in_both(self):
        for row in plain.rows(5, least=2):
            n = len(row.stones)
            for cuts in ((), (1,), (2,), (n - 1,), (1, 3), (2, 3)):
                rough = coarse(row, cuts)
                for i, j in like_stretches(rough):
                    self.assertIn((i, j), stretches(row))
                    finer = turned(row, head_at(row, i, j))
                    self.assertEqual(likeplain.whole(coarse(finer, cuts)), likeplain.whole(like_turned(rough, i, j)))

    def test_different_stones_beside_a_row(self):
        for row in plain.rows(5):
            like = LikeRow(row.stones, ends=row.ends)
            self.assertEqual(like_stretches(like), stretches(row))
            self.assertEqual(like_size(like), class_size(row))
            self.assertEqual(settled(like).stones, min(plain.distances(row)))

    def test_fewest_of_different_stones(self):
        for n in (1, 2, 3, 4):
            for ends in plain.ENDS:
                orders = list(permutations(range(n)))
                for stones, others in product(orders, repeat=2):
                    one, two = LikeRow(stones, ends=ends), LikeRow(others, ends=ends)
                    if like_same(one, two):
                        self.assertEqual(like_fewest(one, two), fewest(Row(stones, ends=ends), Row(others, ends=ends)))

    def test_the_example_row(self):
        for ends in plain.ENDS:
            row = Row(plain.EXAMPLE, ends=ends)
            like = LikeRow(plain.EXAMPLE, ends=ends)
            self.assertEqual(like_size(like), class_size(row))
            for stones in plain.distances(row):
                two = LikeRow(stones, ends=ends)
                self.assertEqual(like_fewest(like, two), fewest(row, plain.like(row, stones)))


if __name__ == "__main__":
    unittest.main()
