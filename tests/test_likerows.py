"""[34]: the class LikeRow, and like_stretches."""

import unittest

from tests import likeplain, plain
from tests.refusing import RefusingTest
from turnedvalleys.errors import BadEnds, BadSize, BadStone
from turnedvalleys.likerows import LikeRow, like_stretches

GREAT = 10 ** 15


class TestLikeRow(RefusingTest):
    def test_fields(self):
        row = LikeRow((3, -1, 3))
        self.assertEqual(likeplain.whole(row), ((3, -1, 3), 0))
        row = LikeRow(stones=(0,), ends=2)
        self.assertEqual(likeplain.whole(row), ((0,), 2))
        with self.assertRaises(TypeError):
            LikeRow((1, 2), 0)

    def test_how_many_stones(self):
        self.refused(BadSize, 0, LikeRow, ())
        for n in range(1, 25):
            self.assertEqual(LikeRow((5,) * n).stones, (5,) * n)
        for n in (25, 26, 40, 1000):
            self.refused(BadSize, n, LikeRow, (5,) * n)

    def test_how_great_stones_are(self):
        for x in (GREAT - 1, 1 - GREAT, 0):
            self.assertEqual(LikeRow((x, x)).stones, (x, x))
        for x in (GREAT, -GREAT, 10 ** 30, -10 ** 30):
            self.refused(BadStone, 0, LikeRow, (x,))
            self.refused(BadStone, 2, LikeRow, (1, 1, x, 3, x))

    def test_ends(self):
        for ends in plain.ENDS:
            self.same_kind(LikeRow((1, 2), ends=ends).ends, ends)
        for ends in (-1, 4, 10 ** 20):
            self.refused(BadEnds, ends, LikeRow, (1, 2), ends=ends)

    def test_which_comes_first(self):
        self.refused(BadSize, 0, LikeRow, (), ends=4)
        self.refused(BadSize, 25, LikeRow, (GREAT,) * 25, ends=4)
        self.refused(BadStone, 1, LikeRow, (1, GREAT), ends=4)

    def test_not_compared(self):
        self.assertFalse(LikeRow((1, 2)) == LikeRow((1, 2)))


class TestStretches(RefusingTest):
    def test_equal_stones_close_nothing(self):
        self.same_kind(like_stretches(LikeRow((2, 1, 1, 2))), ((1, 2),))
        self.same_kind(like_stretches(LikeRow((2, 2, 1, 2))), ())
        self.assertEqual(like_stretches(LikeRow((2, 2, 1, 3), ends=1)), ((0, 2),))
        self.assertEqual(like_stretches(LikeRow((1, 1, 1), ends=3)), ((0, 2),))
        self.assertEqual(like_stretches(LikeRow((1, 1, 1), ends=2)), ())
        self.assertEqual(like_stretches(LikeRow((1, 2, 3, 1, 2), ends=3)), ((0, 1), (0, 4), (3, 4)))

    def test_an_open_end_is_no_wall(self):
        for ends, said in ((0, ()), (1, ((0, 1),)), (2, ((3, 4),)), (3, ((0, 1), (0, 4), (3, 4)))):
            self.assertEqual(like_stretches(LikeRow((1, 1, 2, 1, 1), ends=ends)), said)

    def test_one_stone(self):
        for ends in plain.ENDS:
            self.same_kind(like_stretches(LikeRow((1,), ends=ends)), ())

    def test_small_rows_by_a_look_at_all_pairs(self):
        for row in likeplain.like_rows(5):
            self.same_kind(like_stretches(row), likeplain.stretches(row))

    def test_twenty_four_stones(self):
        for stones in (tuple(range(24)), tuple(range(12)) * 2, (3, 1, 2) * 8, tuple(range(11, -1, -1)) * 2):
            for ends in plain.ENDS:
                row = LikeRow(stones, ends=ends)
                self.same_kind(like_stretches(row), likeplain.stretches(row))

    def test_names_of_arguments(self):
        self.assertEqual(like_stretches(row=LikeRow((1, 1), ends=3)), ((0, 1),))


if __name__ == "__main__":
    unittest.main()
