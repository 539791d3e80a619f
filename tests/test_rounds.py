"""[12]: round_turned, rounds_walked, rounds_run, fewest_rounds."""

import unittest
from itertools import combinations, permutations

from tests import plain
from tests.refusing import RefusingTest
from tests.strangers import refuses_strangers
from turnedvalleys.errors import BadRound, BadRun, TooMany
from turnedvalleys.rounds import fewest_rounds, round_turned, rounds_run, rounds_walked
from turnedvalleys.rows import Row

C = Row((7, 4, 5, 1, 2, 3, 9, 6, 8))
# The lots of its heads are 1 0 in 4 1 0, 2 3 beside these, and both in those of 5 and 9.
WIDE = Row((4, 1, 0, 5, 2, 3, 9), ends=3)


def all_rounds(row):
    """All rounds of a row."""
    free = plain.free_heads(row)
    for many in range(1, len(free) + 1):
        for together in combinations(free, many):
            if not any(x in plain.lot(row, y) for x in together for y in together if x != y):
                yield together


def one_round(row):
    """The Rows after one round."""
    return [Row(plain.walked(row, together), ends=row.ends, rule=row.rule) for together in all_rounds(row)]


class TestRounds(RefusingTest):
    def test_example(self):
        row = plain.example()
        self.assertEqual(rounds_run(row, C), ((5,), (2,)))
        self.assertEqual(fewest_rounds(row, C), 2)
        self.assertEqual(rounds_walked(row, ((5,), (2,))).stones, C.stones)
        self.assertEqual(round_turned(row, (5,)).stones, (7, 4, 5, 2, 1, 3, 9, 6, 8))

    def test_heads_side_by_side(self):
        self.assertEqual(plain.heads(WIDE), (1, 3, 4, 5, 9))
        self.assertEqual(round_turned(WIDE, (1, 3)).stones, (4, 0, 1, 5, 3, 2, 9))
        self.assertEqual(round_turned(WIDE, (3, 4)).stones, (0, 1, 4, 5, 3, 2, 9))
        two = Row(plain.walked(WIDE, (1, 3, 4, 9)), ends=3)
        self.assertEqual(rounds_run(WIDE, two), ((9,), (3, 4), (1,)))
        self.assertEqual(rounds_run(WIDE, Row(plain.walked(WIDE, (1, 3)), ends=3)), ((1, 3),))

    def test_every_tuple_of_stones(self):
        for row in (WIDE, Row(WIDE.stones, ends=3, rule=(2,)), plain.example()):
            was = plain.whole(row)
            rounds = set(all_rounds(row))
            numbers = sorted(row.stones) + [10]
            for many in (0, 1, 2, 3):
                for together in permutations(numbers, many):
                    if together in rounds:
                        two = round_turned(row, together)
                        self.assertEqual(plain.whole(two), (plain.walked(row, together), row.ends, row.rule))
                    else:
                        self.refused(BadRound, together, round_turned, row, together)
            self.assertEqual(plain.whole(row), was)

    def test_what_is_no_round(self):
        row = Row(WIDE.stones, ends=3, rule=(2, 3))
        self.assertEqual(round_turned(row, (3, 4)).stones, (0, 1, 4, 5, 3, 2, 9))
        for together in ((), (4, 3), (3, 3), (1, 4), (1, 3, 4), (5,), (9,), (3, 5), (0,), (2, 3), (7,), (-1, 3),
                         (3, 10 ** 30)):
            self.refused(BadRound, together, round_turned, row, together)
        for together in ((7,), (9,), (8,), (6,), (1,), (2, 5), (2, 3)):
            self.refused(BadRound, together, round_turned, plain.example(), together)

    def test_rounds_walked(self):
        self.assertEqual(plain.whole(rounds_walked(WIDE, ())), plain.whole(WIDE))
        rounds = ((9,), (3, 4), (1,), (9,), (1, 3))
        self.assertEqual(rounds_walked(WIDE, rounds).stones, plain.walked(WIDE, (4,)))
        for bad in ((), (4, 3), (1, 4), (3, 3), (0,), (7,), (10 ** 30,)):
            self.refused(BadRun, 0, rounds_walked, WIDE, (bad,))
            self.refused(BadRun, 2, rounds_walked, WIDE, ((9,), (1, 3), bad, (9,), bad))

    def test_how_many_rounds(self):
        self.assertEqual(rounds_walked(WIDE, ((1, 3),) * 999 + ((3,),)).stones, plain.walked(WIDE, (1,)))
        self.refused(BadRun, 999, rounds_walked, WIDE, ((1,),) * 999 + ((),))
        self.refused(TooMany, 1001, rounds_walked, WIDE, ((1,),) * 1001)
        self.refused(TooMany, 1001, rounds_walked, WIDE, ((),) * 1001)

    def test_small_rows_against_a_search(self):
        for row in plain.rows(4, (None, (2,), (2, 4), ())):
            self.check_rounds(row)
        for stones in ((4, 1, 0, 5, 2, 3), (2, 1, 5, 3, 4, 0)):
            for ends in plain.ENDS:
                self.check_rounds(Row(stones, ends=ends))

    def check_rounds(self, row):
        for stones, many in plain.reached(row, one_round).items():
            two = Row(stones, ends=row.ends, rule=row.rule)
            self.same_kind(fewest_rounds(row, two), many)
            rounds = rounds_run(row, two)
            self.assertIs(rounds.__class__, tuple)
            self.assertEqual(len(rounds), many)
            self.assertEqual(rounds_walked(row, rounds).stones, stones)
            for together in rounds:
                self.same_kind(together, tuple(sorted(together)))
            # In the round t, just t other unlike heads lie above.
            heads = [x for together in rounds for x in together]
            self.assertEqual(len(heads), len(set(heads)))
            for t, together in enumerate(rounds):
                for x in together:
                    self.assertEqual(len([y for y in heads if y != x and x in plain.lot(row, y)]), t)

    def test_equal_rows(self):
        self.same_kind(rounds_run(C, C), ())
        self.same_kind(fewest_rounds(C, C), 0)

    def test_forty_stones(self):
        row = Row(tuple(range(40)), ends=3)
        two = Row(plain.walked(row, (1, 20, 39)), ends=3)
        self.assertEqual(rounds_run(row, two), ((39,), (20,), (1,)))

    def test_rows_of_other_classes(self):
        refuses_strangers(self, rounds_run)
        refuses_strangers(self, fewest_rounds)

    def test_names_of_arguments(self):
        self.assertEqual(round_turned(together=(1,), row=WIDE).stones, plain.walked(WIDE, (1,)))
        self.assertEqual(rounds_walked(rounds=((1,),), row=WIDE).stones, plain.walked(WIDE, (1,)))
        self.assertEqual(rounds_run(two=WIDE, one=WIDE), ())
        self.assertEqual(fewest_rounds(two=WIDE, one=WIDE), 0)


if __name__ == "__main__":
    unittest.main()
