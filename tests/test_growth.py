"""[33]: with_least, growths."""

import unittest

from tests import plain
from tests.refusing import RefusingTest
from turnedvalleys.classcounts import class_count
from turnedvalleys.errors import BadPlace, BadStone, TooMany
from turnedvalleys.growth import growths, with_least
from turnedvalleys.rows import Row

GREAT = 10 ** 15


class TestWithLeast(RefusingTest):
    def test_each_place_of_small_rows(self):
        for row in plain.rows(3, (None, (2,), ())):
            n = len(row.stones)
            for x in (-1, -7, 1 - GREAT):
                for place in range(n + 1):
                    found = with_least(row, x, place)
                    self.assertIsInstance(found, Row)
                    stones = list(row.stones)
                    stones.insert(place, x)
                    self.assertEqual(plain.whole(found), (tuple(stones), row.ends, row.rule))
                    self.assertEqual(found.place(x), place)

    def test_places_that_are_none(self):
        for row in plain.rows(3):
            n = len(row.stones)
            for place in (-1, n + 1, -n - 1, 10 ** 30, -10 ** 30):
                self.refused(BadPlace, place, with_least, row, -1, place)

    def test_stones_that_are_not_below_all(self):
        row = Row((4, 2, 9), ends=1)
        for x in (2, 3, 4, 5, 9, 10, GREAT, -GREAT, -GREAT - 1, 10 ** 30, -10 ** 30):
            for place in (0, 3, -1, 4):
                self.refused(BadStone, x, with_least, row, x, place)
        for x in (None, "1", "", (1,), ()):
            self.refused(BadStone, x, with_least, row, x, 0)
        self.assertEqual(with_least(row, 1, 0).stones, (1, 4, 2, 9))
        self.assertEqual(with_least(row, 1 - GREAT, 3).stones, (4, 2, 9, 1 - GREAT))

    def test_how_many_stones(self):
        row = Row(tuple(range(39)))
        for place in (0, 20, 39):
            self.assertEqual(len(with_least(row, -1, place).stones), 40)
        forty = Row(tuple(range(40)))
        for place in (0, 20, 40):
            self.refused(TooMany, 41, with_least, forty, -1, place)

    def test_which_comes_first(self):
        forty = Row(tuple(range(40)))
        self.refused(BadStone, 0, with_least, forty, 0, 41)
        self.refused(BadPlace, 41, with_least, forty, -1, 41)
        self.refused(BadPlace, -1, with_least, forty, -1, -1)

    def test_names_of_arguments(self):
        self.assertEqual(with_least(place=1, x=0, row=Row((1, 2))).stones, (1, 0, 2))


class TestGrowths(RefusingTest):
    def test_examples(self):
        self.same_kind(growths(Row((5,))), 2)
        self.same_kind(growths(Row((5,), ends=3)), 1)
        self.assertEqual([growths(Row((5,), ends=ends)) for ends in (1, 2)], [2, 2])

    def test_small_classes_by_a_look_at_all_rows(self):
        for rows in plain.classes(4):
            grown = [Row(row.stones[:place] + (-1,) + row.stones[place:], ends=row.ends)
                     for row in rows for place in range(len(row.stones) + 1)]
            kin = {frozenset(plain.distances(row)) for row in grown}
            for row in rows:
                self.same_kind(growths(row), len(kin))

    def test_the_rule_changes_nothing(self):
        for row in plain.rows(4, plain.RULES):
            self.assertEqual(growths(row), growths(Row(row.stones, ends=row.ends)))

    def test_the_sum_over_all_classes(self):
        for n in range(1, 6):
            for ends in plain.ENDS:
                found = [growths(rows[0]) for rows in plain.classes_of(range(n), ends, None)]
                self.assertEqual(sum(found), class_count(n + 1, ends=ends))

    def test_forty_stones(self):
        # Of ascending stones between walls, all but the least one have one child, ahead of them.
        row = Row(tuple(range(40)), ends=3)
        self.assertEqual(growths(row), 40)
        self.assertEqual(growths(Row(tuple(range(40)))), 41)
        self.assertEqual(growths(Row(tuple(range(40)), ends=1)), 40)
        self.assertEqual(growths(Row(tuple(range(40)), ends=2)), 41)
        zigzag = tuple(x for k in range(20) for x in (k, 20 + k))
        self.assertEqual(growths(Row(zigzag, ends=3)), 21)

    def test_names_of_arguments(self):
        self.assertEqual(growths(row=Row((1,))), 2)


if __name__ == "__main__":
    unittest.main()
