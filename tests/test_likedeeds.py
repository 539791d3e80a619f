"""[34]: like_turned, like_walked, like_run_right."""

import unittest
from itertools import product

from tests import likeplain, plain
from tests.refusing import RefusingTest
from tests.values import ANY
from turnedvalleys.errors import BadRun, BadStretch, TooMany
from turnedvalleys.likedeeds import like_run_right, like_turned, like_walked
from turnedvalleys.likerows import LikeRow
from turnedvalleys.rows import Row

WALLED = LikeRow((1, 2, 3, 1, 2), ends=3)
BAD_PAIRS = ((0, 0), (1, 0), (0, 2), (1, 1), (-1, 1), (0, 5), (4, 5), (5, 6), (-5, -1), (3, 10 ** 30), (-10 ** 30, 4),
             (1, 3), (2, 4), (0, 3), (1, 4))


class TestTurned(RefusingTest):
    def test_small_rows(self):
        for row in likeplain.like_rows(4):
            was = likeplain.whole(row)
            n = len(row.stones)
            for i, j in product(range(-1, n + 2), repeat=2):
                if (i, j) in likeplain.stretches(row):
                    found = like_turned(row, i, j)
                    self.assertIsInstance(found, LikeRow)
                    self.assertEqual(likeplain.whole(found), likeplain.whole(likeplain.turned(row, i, j)))
                    self.assertEqual(likeplain.whole(like_turned(found, i, j)), was)
                else:
                    self.refused(BadStretch, (i, j), like_turned, row, i, j)
                self.assertEqual(likeplain.whole(row), was)

    def test_a_turn_that_changes_nothing(self):
        row = LikeRow((2, 1, 1, 2))
        found = like_turned(row, 1, 2)
        self.assertEqual(likeplain.whole(found), ((2, 1, 1, 2), 0))

    def test_bad_stretches(self):
        for i, j in BAD_PAIRS:
            self.refused(BadStretch, (i, j), like_turned, WALLED, i, j)

    def test_names_of_arguments(self):
        self.assertEqual(like_turned(j=1, i=0, row=WALLED).stones, (2, 1, 3, 1, 2))


class TestWalked(RefusingTest):
    def test_small_rows_turn_by_turn(self):
        for row in likeplain.like_rows(4):
            for run in product(likeplain.stretches(row) + ((0, 1),), repeat=2):
                self.check_run(row, run)

    def check_run(self, row, run):
        here = row
        for k, (i, j) in enumerate(run):
            if (i, j) not in likeplain.stretches(here):
                self.refused(BadRun, k, like_walked, row, run)
                self.assertIs(like_run_right(row, run, here), False)
                return
            here = likeplain.turned(here, i, j)
        found = like_walked(row, run)
        self.assertIsInstance(found, LikeRow)
        self.assertEqual(likeplain.whole(found), likeplain.whole(here))
        self.assertIs(like_run_right(row, run, here), True)

    def test_a_pair_must_be_a_stretch_when_it_comes(self):
        row = LikeRow((1, 2, 1, 3, 1), ends=3)
        self.refused(BadRun, 0, like_walked, row, ((2, 4), (0, 4)))
        self.refused(BadRun, 1, like_walked, row, ((0, 4), (0, 2)))
        self.assertEqual(like_walked(row, ((0, 4), (2, 4), (0, 4))).stones, (1, 2, 1, 3, 1))
        # The pair (1, 2) is a stretch only while the stone 2 stands at the place 0.
        row = LikeRow((1, 0, 2, 3), ends=1)
        self.refused(BadRun, 0, like_walked, row, ((1, 2), (0, 2)))
        self.refused(BadRun, 3, like_walked, row, ((0, 2), (1, 2), (0, 2), (1, 2)))
        self.assertEqual(like_walked(row, ((0, 2), (1, 2), (0, 2), (0, 1))).stones, (1, 0, 2, 3))

    def test_the_empty_run(self):
        self.assertEqual(likeplain.whole(like_walked(WALLED, ())), likeplain.whole(WALLED))

    def test_how_many_pairs(self):
        run = ((0, 4), (0, 1)) * 4999 + ((0, 1), (0, 4))
        here = WALLED
        for i, j in run:
            here = likeplain.turned(here, i, j)
        said = here.stones
        self.assertNotEqual(said, WALLED.stones)
        self.assertEqual(like_walked(WALLED, run).stones, said)
        self.assertIs(like_run_right(WALLED, run, LikeRow(said, ends=3)), True)
        for many in (10001, 20000):
            for pair in ((0, 4), (0, 0)):
                self.refused(TooMany, many, like_walked, WALLED, (pair,) * many)
        self.assertIs(like_run_right(WALLED, ((0, 4),) * 10000, WALLED), True)
        self.assertIs(like_run_right(WALLED, ((0, 4),) * 10002, WALLED), False)
        self.assertIs(like_run_right(WALLED, ((0, 4),) * 10001, like_walked(WALLED, ((0, 4),))), False)

    def test_a_bad_pair_at_each_index(self):
        for pair in BAD_PAIRS:
            for k in range(6):
                run = ((0, 4),) * k + (pair,) + ((0, 4), pair)
                self.refused(BadRun, k, like_walked, WALLED, run)
                self.assertIs(like_run_right(WALLED, run, WALLED), False)
            self.refused(BadRun, 9999, like_walked, WALLED, ((0, 4),) * 9999 + (pair,))

    def test_names_of_arguments(self):
        self.assertEqual(like_walked(run=((0, 1),), row=WALLED).stones, (2, 1, 3, 1, 2))
        self.assertIs(like_run_right(two=WALLED, run=(), one=WALLED), True)


class TestRunRight(RefusingTest):
    def test_things_that_are_no_like_runs(self):
        wrong = ((0, 4), ((0, 4, 0),), ((0,),), ((),), (("0", "4"),), ((0, "4"),), ((None, 4),), ((0, None),),
                 (((0, 4),),), (((0,), 4),), ((0, (4,)),), ((0, 4), None), ((0, 4), 0), (None, (0, 4)), "0 4",
                 ((0, 4), (0, 4), ()), ("04",), ("ab", "cd"), (0,), ((0, 10 ** 30),), ((-1, 4),), ((False, True),))
        for value in wrong + ANY:
            for row in (WALLED, LikeRow((1, 1), ends=3), LikeRow((5,)), LikeRow((2, 1, 1, 2))):
                self.same_kind(like_run_right(row, value, row), False)

    def test_unlike_ends(self):
        for ends in plain.ENDS:
            for other in plain.ENDS:
                one, two = LikeRow((2, 1, 1, 2), ends=ends), LikeRow((2, 1, 1, 2), ends=other)
                self.same_kind(like_run_right(one, (), two), ends == other)
                self.same_kind(like_run_right(one, ((1, 2),), two), ends == other)

    def test_other_stones(self):
        self.assertIs(like_run_right(WALLED, ((0, 1),), LikeRow((2, 1, 3, 1, 2), ends=3)), True)
        for stones in ((1, 2, 3, 1, 2), (2, 1, 3, 2, 1), (2, 1, 4, 1, 2), (2, 1, 3, 1), (2, 1, 3, 1, 2, 2)):
            self.assertIs(like_run_right(WALLED, ((0, 1),), LikeRow(stones, ends=3)), False)

    def test_things_that_are_no_like_rows(self):
        for value in ANY + (Row((1, 2)),):
            self.assertIs(like_run_right(value, (), WALLED), False)
            self.assertIs(like_run_right(WALLED, (), value), False)


if __name__ == "__main__":
    unittest.main()
