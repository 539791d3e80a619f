"""[7]: walked, trail, trimmed, run_right, back."""

import unittest
from itertools import product

from tests import plain
from tests.refusing import RefusingTest
from tests.values import ANY
from turnedvalleys.errors import BadRun, TooMany
from turnedvalleys.rows import Row
from turnedvalleys.runs import back, run_right, trail, trimmed, walked

LONG = Row(tuple(range(40)), ends=3)


def runs(row, most):
    """All runs of row of at most so many turns."""
    for many in range(most + 1):
        yield from product(plain.free_heads(row), repeat=many)


class TestWalked(RefusingTest):
    def test_example(self):
        row = plain.example()
        self.assertEqual(walked(row, (2, 5)).stones, (7, 4, 5, 1, 2, 3, 9, 6, 8))
        self.assertEqual(walked(row, (5, 2)).stones, (7, 4, 5, 1, 2, 3, 9, 6, 8))
        self.assertEqual(walked(row, (3, 3, 2, 3)).stones, (7, 1, 2, 3, 5, 4, 9, 6, 8))

    def test_small_rows_turn_by_turn(self):
        for row in plain.rows(4, plain.RULES):
            was = plain.whole(row)
            for run in runs(row, 3):
                two = walked(row, run)
                self.assertIsInstance(two, Row)
                self.assertEqual(plain.whole(two), (plain.walked(row, run), row.ends, row.rule))
                on_the_way = trail(row, run)
                self.assertIs(on_the_way.__class__, tuple)
                self.assertEqual([plain.whole(one) for one in on_the_way],
                                 [(plain.walked(row, run[:i]), row.ends, row.rule) for i in range(len(run) + 1)])
                self.same_kind(trimmed(row, run), tuple(sorted(x for x in set(run) if run.count(x) % 2)))
                self.assertEqual(plain.walked(row, trimmed(row, run)), two.stones)
                self.assertEqual(plain.walked(two, back(run)), row.stones)
                self.assertEqual(plain.whole(row), was)

    def test_the_empty_run(self):
        for row in (Row((5,)), LONG, plain.example(())):
            self.assertEqual(plain.whole(walked(row, ())), plain.whole(row))
            self.assertEqual([plain.whole(one) for one in trail(row, ())], [plain.whole(row)])
            self.assertEqual(trimmed(row, ()), ())
            self.assertIs(run_right(row, (), row), True)
        self.assertEqual(back(()), ())

    def test_ten_thousand_turns(self):
        run = (39, 17) * 4999 + (3, 39)
        self.assertEqual(walked(LONG, run).stones, plain.walked(LONG, (17, 3)))
        self.assertEqual(len(trail(LONG, run)), 10001)
        self.assertEqual(trail(LONG, run)[-1].stones, plain.walked(LONG, (17, 3)))
        self.assertEqual(trimmed(LONG, run), (3, 17))
        self.assertIs(run_right(LONG, run, walked(LONG, (3, 17))), True)
        self.assertEqual(back(run), (39, 3) + (17, 39) * 4999)

    def test_too_many(self):
        for run in ((39,) * 10001, (0,) * 10001, (39,) * 20000):
            self.refused(TooMany, len(run), walked, LONG, run)
            self.refused(TooMany, len(run), trail, LONG, run)
            self.refused(TooMany, len(run), trimmed, LONG, run)
            self.refused(TooMany, len(run), back, run)
        self.assertIs(run_right(LONG, (39,) * 10001, walked(LONG, (39,))), False)
        self.assertIs(run_right(LONG, (39,) * 10002, LONG), False)

    def test_the_first_number_that_is_no_free_head(self):
        row = plain.example((2, 5))
        for x in (3, 1, 9, 7, 0, 11, -2, 10 ** 30):
            for asked in (walked, trail, trimmed):
                self.refused(BadRun, 0, asked, row, (x,))
                self.refused(BadRun, 2, asked, row, (2, 5, x, 5, x))
                self.refused(BadRun, 9999, asked, row, (2,) * 9999 + (x,))
        self.refused(BadRun, 0, walked, Row((1,), ends=3), (1,))

    def test_back_takes_any_numbers(self):
        self.same_kind(back((10 ** 30, -5, 0, 0)), (0, 0, -5, 10 ** 30))
        self.assertEqual(back(run=(1, 2)), (2, 1))

    def test_names_of_arguments(self):
        row = plain.example()
        self.assertEqual(walked(run=(2,), row=row).place(2), 2)
        self.assertEqual(len(trail(run=(2,), row=row)), 2)
        self.assertEqual(trimmed(run=(2, 2), row=row), ())
        self.assertEqual(run_right(two=row, run=(2, 2), one=row), True)


class TestRunRight(RefusingTest):
    def test_small_rows(self):
        for row in plain.rows(4, (None, (2,), (3,))):
            stones = set(plain.distances(row))
            for run in product(range(-1, 5), repeat=2):
                for other in stones | {tuple(reversed(row.stones))}:
                    two = Row(other, ends=row.ends, rule=row.rule)
                    right = set(run) <= set(plain.free_heads(row)) and plain.walked(row, run) == other
                    self.same_kind(run_right(row, run, two), right)

    def test_things_that_are_no_runs(self):
        for row in (Row((1, 2, 3), ends=3), plain.example(), Row((0,)), LONG):
            for value in ANY:
                self.same_kind(run_right(row, value, row), False)

    def test_a_bool_is_no_number(self):
        row = Row((0, 1), ends=3)
        two = Row((1, 0), ends=3)
        self.assertIs(run_right(row, (1,), two), True)
        self.assertIs(run_right(row, (True,), two), False)

    def test_other_ends_and_other_rules(self):
        row = Row((3, 1, 2, 4), ends=3, rule=(2, 4))
        self.assertIs(run_right(row, (2,), Row((3, 2, 1, 4), ends=3, rule=(2, 4))), True)
        for ends in (0, 1, 2):
            self.assertIs(run_right(row, (2,), Row((3, 2, 1, 4), ends=ends, rule=(2, 4))), False)
        for rule in (None, (), (2,), (2, 3, 4)):
            self.assertIs(run_right(row, (2,), Row((3, 2, 1, 4), ends=3, rule=rule)), False)

    def test_none_is_not_the_rule_of_all_lengths(self):
        every = tuple(range(2, 41))
        none, alls = Row((1, 2), ends=3), Row((2, 1), ends=3, rule=every)
        self.assertIs(run_right(none, (2,), alls), False)
        self.assertIs(run_right(alls, (2,), none), False)
        self.assertIs(run_right(none, (2,), Row((2, 1), ends=3)), True)

    def test_other_stones(self):
        row = Row((1, 2), ends=3)
        self.assertIs(run_right(row, (2,), Row((3, 1), ends=3)), False)
        self.assertIs(run_right(row, (), Row((1, 2, 3), ends=3)), False)
        self.assertIs(run_right(row, (2,), Row((1, 2), ends=3)), False)

    def test_things_that_are_no_rows(self):
        row = plain.example()
        for value in ANY:
            self.assertIs(run_right(value, (), row), False)
            self.assertIs(run_right(row, (), value), False)
            self.assertIs(run_right(value, (), value), False)

    def test_a_held_head(self):
        row = Row((1, 2), ends=3, rule=())
        self.assertIs(run_right(row, (2,), Row((2, 1), ends=3, rule=())), False)
        self.assertIs(run_right(row, (2, 2), row), False)


if __name__ == "__main__":
    unittest.main()
