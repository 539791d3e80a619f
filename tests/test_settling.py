"""[35], [36]: settled, like_same, like_size."""

import unittest
from itertools import permutations, product

from tests import likeplain, plain
from tests.refusing import RefusingTest
from turnedvalleys.errors import Unlike
from turnedvalleys.likerows import LikeRow
from turnedvalleys.settling import like_same, like_size, settled

# Rows that read the same from both ends, and nearly so.
MIRRORED = ((1, 2, 3, 2, 1), (1, 2, 3, 1, 2), (2, 1, 3, 1, 2), (1, 2, 3, 3, 2, 1), (1, 2, 3, 3, 1, 2),
            (1, 2, 3, 2, 3, 2, 1), (1, 2, 3, 1, 3, 1, 2), (1, 1, 3, 2, 1, 3, 1, 1), (1, 1, 2, 3, 1, 3, 2, 1, 2),
            (1, 2, 1, 3, 2, 1, 1), (0, 1, 2, 1, 0, 3, 1, 0, 2, 0, 1), (1, 0, 2, 0, 1, 3, 0, 1, 2, 0, 1))


class TestSettled(RefusingTest):
    def test_small_classes_by_a_plain_search(self):
        for n in range(1, 6):
            for ends in plain.ENDS:
                for found in likeplain.classes(product(range(3), repeat=n), ends):
                    self.check_class(found, ends)

    def check_class(self, found, ends):
        first = min(found)
        for stones in found:
            row = LikeRow(stones, ends=ends)
            best = settled(row)
            self.assertIsInstance(best, LikeRow)
            self.assertEqual(likeplain.whole(best), (first, ends))
            self.same_kind(like_size(row), len(found))

    def test_rows_that_read_nearly_the_same_from_both_ends(self):
        for stones in MIRRORED:
            for ends in plain.ENDS:
                self.check_class(likeplain.distances(LikeRow(stones, ends=ends)), ends)

    def test_six_stones_of_four_kinds(self):
        for stones in ((0, 1, 2, 3, 1, 0), (3, 0, 1, 2, 0, 3), (2, 0, 3, 0, 1, 2), (0, 2, 1, 3, 1, 2), (3, 2, 2, 1, 0, 0)):
            for order in list(permutations(stones))[::13]:
                for ends in plain.ENDS:
                    self.check_class(likeplain.distances(LikeRow(order, ends=ends)), ends)

    def test_twenty_four_stones(self):
        self.assertEqual(settled(LikeRow(tuple(range(23, -1, -1)), ends=3)).stones, tuple(range(24)))
        self.assertEqual(settled(LikeRow(tuple(range(23, -1, -1)))).stones, tuple(range(23, -1, -1)))
        self.assertEqual(settled(LikeRow((5,) * 24, ends=3)).stones, (5,) * 24)
        down = tuple(range(12, 0, -1))
        # Each stone stands on both sides of all that are less, so no turn changes anything.
        self.assertEqual(settled(LikeRow(down + down[::-1], ends=3)).stones, down + down[::-1])

    def test_names_of_arguments(self):
        self.assertEqual(settled(row=LikeRow((2, 1), ends=3)).stones, (1, 2))


class TestSame(RefusingTest):
    def test_small_rows_by_a_plain_search(self):
        for n in range(1, 5):
            orders = list(product(range(3), repeat=n))
            for ends in plain.ENDS:
                for stones in orders:
                    row = LikeRow(stones, ends=ends)
                    kin = likeplain.distances(row)
                    for other in orders:
                        two = LikeRow(other, ends=ends)
                        if sorted(stones) == sorted(other):
                            self.same_kind(like_same(row, two), other in kin)
                        else:
                            self.refused(Unlike, "stones", like_same, row, two)

    def test_unlike(self):
        for ends in plain.ENDS:
            for other in plain.ENDS:
                if ends != other:
                    self.refused(Unlike, "ends", like_same, LikeRow((1, 1), ends=ends), LikeRow((1, 1), ends=other))
                    self.refused(Unlike, "ends", like_same, LikeRow((1, 1), ends=ends), LikeRow((2,), ends=other))
        for stones in ((1, 2), (1, 1, 1, 2), (1, 2, 2), (1, 1, 3), (1, 1, 2, 2), (1,)):
            self.refused(Unlike, "stones", like_same, LikeRow((1, 1, 2)), LikeRow(stones))
            self.refused(Unlike, "stones", like_same, LikeRow(stones), LikeRow((1, 1, 2)))

    def test_names_of_arguments(self):
        self.assertIs(like_same(two=LikeRow((1, 2)), one=LikeRow((2, 1))), False)


class TestSize(RefusingTest):
    def test_example(self):
        self.assertEqual(like_size(LikeRow((1, 2, 3, 1, 2), ends=3)), 4)

    def test_different_stones(self):
        # One free head for each stone but the least; or but the greatest, too, which is a record.
        self.assertEqual(like_size(LikeRow(tuple(range(24)), ends=3)), 2 ** 23)
        self.assertEqual(like_size(LikeRow(tuple(range(24)), ends=1)), 2 ** 22)
        self.assertEqual(like_size(LikeRow(tuple(range(24)))), 1)

    def test_equal_stones(self):
        for n in range(1, 25):
            for ends in plain.ENDS:
                self.same_kind(like_size(LikeRow((5,) * n, ends=ends)), 1)

    def test_names_of_arguments(self):
        self.assertEqual(like_size(row=LikeRow((1, 2), ends=3)), 2)


if __name__ == "__main__":
    unittest.main()
