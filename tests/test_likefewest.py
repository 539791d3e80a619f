"""[36]: like_fewest, like_run."""

import unittest
from itertools import product

from tests import likeplain, plain
from tests.refusing import RefusingTest
from tests.test_settling import MIRRORED
from turnedvalleys.errors import NotSame, Unlike
from turnedvalleys.likedeeds import like_run_right
from turnedvalleys.likefewest import like_fewest, like_run
from turnedvalleys.likerows import LikeRow


class TestLikeFewest(RefusingTest):
    def check_pairs(self, orders, ends):
        for stones in orders:
            row = LikeRow(stones, ends=ends)
            for other, many in likeplain.distances(row).items():
                self.check_pair(row, LikeRow(other, ends=ends), many)

    def check_pair(self, one, two, many):
        run = like_run(one, two)
        self.assertIs(run.__class__, tuple)
        self.assertIs(like_run_right(one, run, two), True)
        self.assertEqual(len(run), many)
        self.same_kind(like_fewest(one, two), many)

    def test_example(self):
        rows = [LikeRow(stones, ends=3) for stones in ((1, 2, 3, 1, 2), (1, 2, 3, 2, 1), (2, 1, 3, 2, 1))]
        self.assertEqual(like_run(rows[0], rows[2]), ((0, 4),))
        for one in rows:
            for two in rows:
                self.same_kind(like_fewest(one, two), 0 if one is two else 1)

    def test_small_classes_by_a_plain_search(self):
        for n in range(1, 6):
            for ends in plain.ENDS:
                self.check_pairs(product(range(3), repeat=n), ends)

    def test_six_stones(self):
        for ends in plain.ENDS:
            self.check_pairs(list(product(range(4), repeat=6))[::11], ends)

    def test_rows_that_read_nearly_the_same_from_both_ends(self):
        for ends in plain.ENDS:
            self.check_pairs(MIRRORED, ends)

    def test_a_row_turned_about_as_a_whole(self):
        for stones in MIRRORED + ((1, 2, 3, 4, 5, 6, 7), (3, 3, 1, 2, 3, 2, 1, 1)):
            row, back = LikeRow(stones, ends=3), LikeRow(stones[::-1], ends=3)
            self.check_pair(row, back, likeplain.distances(row)[stones[::-1]])
            self.assertLessEqual(like_fewest(row, back), 1)

    def test_small_rows_that_do_not_come(self):
        for n in range(1, 5):
            orders = list(product(range(3), repeat=n))
            for ends in plain.ENDS:
                for stones in orders:
                    row = LikeRow(stones, ends=ends)
                    kin = likeplain.distances(row)
                    for other in orders:
                        if other not in kin:
                            error, what = (NotSame, 1) if sorted(stones) == sorted(other) else (Unlike, "stones")
                            self.refused(error, what, like_fewest, row, LikeRow(other, ends=ends))
                            self.refused(error, what, like_run, row, LikeRow(other, ends=ends))

    def test_twenty_four_stones(self):
        row = LikeRow(tuple(range(24)), ends=3)
        self.check_pair(row, LikeRow(tuple(range(23, -1, -1)), ends=3), 1)
        self.assertEqual(like_fewest(row, LikeRow((23,) + tuple(range(23)), ends=3)), 2)
        # All but the midst reads the same from both ends, so each of the twelve rings around it may be turned or not.
        down = tuple(range(13, 2, -1))
        one = LikeRow(down + (2, 1) + down[::-1], ends=3)
        two = LikeRow(down + (1, 2) + down[::-1], ends=3)
        self.check_pair(one, two, 1)
        self.check_pair(one, one, 0)
        down = tuple(range(13, 3, -1))
        one = LikeRow(down + (1, 2, 2, 3) + down[::-1], ends=3)
        self.refused(NotSame, 1, like_run, one, LikeRow(down + (2, 1, 2, 3) + down[::-1], ends=3))
        self.refused(NotSame, 1, like_fewest, one, LikeRow(down + (2, 1, 2, 3) + down[::-1], ends=3))
        self.check_pair(one, LikeRow(down + (3, 1, 2, 2) + down[::-1], ends=3), 2)
        self.check_pair(LikeRow((5,) * 24, ends=3), LikeRow((5,) * 24, ends=3), 0)

    def test_unlike(self):
        for asked in (like_fewest, like_run):
            for ends in plain.ENDS:
                for other in plain.ENDS:
                    if ends != other:
                        self.refused(Unlike, "ends", asked, LikeRow((1, 2), ends=ends), LikeRow((2, 2), ends=other))
            self.refused(Unlike, "stones", asked, LikeRow((1, 1, 2)), LikeRow((1, 2, 2)))
            self.refused(Unlike, "stones", asked, LikeRow((1, 2)), LikeRow((2, 1, 1)))
            self.refused(NotSame, 1, asked, LikeRow((1, 2)), LikeRow((2, 1)))
            self.refused(NotSame, 1, asked, LikeRow((1, 2, 2), ends=3), LikeRow((2, 1, 2), ends=3))

    def test_names_of_arguments(self):
        one, two = LikeRow((1, 2), ends=3), LikeRow((2, 1), ends=3)
        self.assertEqual(like_fewest(two=two, one=one), 1)
        self.assertEqual(like_run(two=two, one=one), ((0, 1),))


if __name__ == "__main__":
    unittest.main()
