"""[18]: mended."""

import unittest
from itertools import product

from tests import plain
from tests.refusing import RefusingTest
from tests.strangers import NOT_SAME, UNLIKE, refuses_strangers
from turnedvalleys.errors import NotSame, TooMany, Unlike
from turnedvalleys.mending import mended
from turnedvalleys.rows import Row
from turnedvalleys.runs import walked

LONG = Row(tuple(range(40)), ends=3)
C = Row((7, 4, 5, 1, 2, 3, 9, 6, 8))


class TestMended(RefusingTest):
    def test_example_row(self):
        row = plain.example()
        self.same_kind(mended(row, (), C), (2, 5))
        self.same_kind(mended(row, (2, 5), C), (2, 5))
        self.same_kind(mended(row, (5, 7, 2, 0, -3, 10 ** 30), C), (5, 2))
        self.same_kind(mended(row, (3, 1, 3, 2, 9), C), (3, 3, 2, 5))
        self.same_kind(mended(row, (3,), C), (3, 2, 3, 5))
        self.same_kind(mended(row, (), row), ())

    def test_small_rows_against_a_search(self):
        for rows in plain.classes(4, (None, (2,), (2, 4), ()), least=2):
            far = {row.stones: plain.distances(row) for row in rows}
            for row in rows[::2]:
                free = plain.free_heads(row)
                numbers = tuple(range(-1, len(row.stones) + 1))
                for run in list(product(numbers, repeat=2)) + [numbers * 2, numbers[::-1]]:
                    for goal in rows[::3]:
                        self.check_mended(row, run, goal, free, far)

    def check_mended(self, row, run, goal, free, far):
        kept = tuple(x for x in run if x in free)
        found = mended(row, run, goal)
        self.assertIs(found.__class__, tuple)
        self.assertEqual(found[:len(kept)], kept)
        rest = found[len(kept):]
        there = plain.walked(row, kept)
        self.assertEqual(rest, tuple(sorted(rest)))
        self.assertEqual(len(rest), far[there][goal.stones])
        self.assertEqual(plain.walked(row, found), goal.stones)

    def test_held_heads_are_left_out(self):
        row = plain.example((2, 5))
        goal = Row((7, 4, 5, 2, 1, 3, 9, 6, 8), rule=(2, 5))
        self.assertEqual(mended(row, (3, 2, 3, 3), goal), (2, 2, 5))

    def test_long_runs(self):
        goal = walked(LONG, (5, 7))
        self.assertEqual(mended(LONG, (), goal), (5, 7))
        self.assertEqual(mended(LONG, (0,) * 10000, goal), (5, 7))
        self.assertEqual(mended(LONG, (39,) * 9999 + (5,), goal), (39,) * 9999 + (5, 7, 39))
        run = (39, 38) * 5000
        self.assertEqual(mended(LONG, run, goal), run + (5, 7))
        for run in ((39,) * 10001, (0,) * 10001, (0,) * 20000):
            self.refused(TooMany, len(run), mended, LONG, run, goal)

    def test_goals_of_other_classes(self):
        for run in ((), (1, 2, 3), (2,), (10 ** 30,), (2,) * 10000):
            refuses_strangers(self, lambda one, two: mended(one, run, two))

    def test_too_many_ahead_of_a_bad_goal(self):
        for _, one, two in UNLIKE:
            self.refused(TooMany, 10001, mended, one, (2,) * 10001, two)
        for one, two in NOT_SAME:
            self.refused(TooMany, 10001, mended, one, (2,) * 10001, two)

    def test_unlike_ahead_of_not_same(self):
        one = Row((1, 2), ends=3, rule=())
        self.refused(Unlike, "ends", mended, one, (2,), Row((2, 1), ends=1))
        self.refused(Unlike, "rule", mended, one, (2,), Row((2, 3), ends=3))
        self.refused(NotSame, 1, mended, one, (2,), Row((2, 1), ends=3, rule=()))

    def test_names_of_arguments_and_nothing_changed(self):
        row = plain.example()
        self.assertEqual(mended(goal=C, run=(2,), row=row), (2, 5))
        self.assertEqual(plain.whole(row), plain.whole(plain.example()))


if __name__ == "__main__":
    unittest.main()
