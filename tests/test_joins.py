"""[32]: joined."""

import unittest
from itertools import combinations, permutations

from tests import plain
from tests.refusing import RefusingTest
from turnedvalleys.errors import BadEnds, BadStone, TooMany, Unlike
from turnedvalleys.joins import joined
from turnedvalleys.rows import Row

GREAT = 10 ** 15
EVERY = tuple(range(2, 41))


def pairs(n, rule):
    """All pairs of Rows that may be joined and have the stones 0 to n - 1 together, one at least in each."""
    for many in range(1, n):
        for chosen in combinations(range(n), many):
            rest = [x for x in range(n) if x not in chosen]
            for stones in permutations(chosen):
                for others in permutations(rest):
                    for ends in (2, 3):
                        for other_ends in (1, 3):
                            yield (Row(stones, ends=ends, rule=rule), Row(others, ends=other_ends, rule=rule))


class TestJoined(RefusingTest):
    def test_stones_ends_and_rule(self):
        for ends, other_ends, said in ((2, 1, 0), (3, 1, 1), (2, 3, 2), (3, 3, 3)):
            for rule in (None, (), (2, 5), EVERY):
                found = joined(Row((3, 1), ends=ends, rule=rule), 7, Row((4, 2, 6), ends=other_ends, rule=rule))
                self.assertIsInstance(found, Row)
                self.assertEqual(plain.whole(found), ((3, 1, 7, 4, 2, 6), said, rule))
                self.assertIs(found.ends.__class__, int)

    def test_heads_and_senses(self):
        for n in (2, 3, 4):
            for rule in (None, (2,), (3, 5)):
                for one, two in pairs(n, rule):
                    self.check_heads(one, two, joined(one, n, two))

    def check_heads(self, one, two, row):
        top = max(row.stones)
        said = plain.heads(one) + plain.heads(two) + ((top,) if row.ends == 3 else ())
        self.assertEqual(plain.heads(row), tuple(sorted(said)))
        for part in (one, two):
            for x in plain.heads(part):
                was = plain.sense(part, x)
                turned_over = part is two and x == max(two.stones)
                self.assertEqual(plain.sense(row, x), 1 - was if turned_over else was)

    def test_the_greatest_stone_of_the_second_row(self):
        one, two = Row((1, 2), ends=3), Row((3, 4), ends=3)
        row = joined(one, 5, two)
        self.assertEqual(row.stones, (1, 2, 5, 3, 4))
        self.assertEqual([plain.sense(part, x) for part, x in ((one, 2), (row, 2), (two, 4), (row, 4))], [0, 0, 0, 1])

    def test_ends_that_are_open_where_they_must_not_be(self):
        for ends in plain.ENDS:
            for other_ends in plain.ENDS:
                one, two = Row((1,), ends=ends), Row((2,), ends=other_ends)
                if ends in (0, 1):
                    self.refused(BadEnds, ends, joined, one, 3, two)
                elif other_ends in (0, 2):
                    self.refused(BadEnds, other_ends, joined, one, 3, two)
                else:
                    self.assertEqual(joined(one, 3, two).stones, (1, 3, 2))

    def test_tops(self):
        one, two = Row((5, -3), ends=2), Row((1, 8), ends=1)
        for top in (8, 5, 1, 7, 6, 0, -3, -GREAT, GREAT, GREAT + 1, 10 ** 30, -10 ** 30):
            self.refused(BadStone, top, joined, one, top, two)
            self.refused(BadStone, top, joined, Row((1, 8), ends=2), top, Row((5, -3), ends=1))
        for top in (9, GREAT - 1):
            self.assertEqual(joined(one, top, two).stones, (5, -3, top, 1, 8))

    def test_rules_that_differ(self):
        for rule, other in ((None, EVERY), (EVERY, None), (None, ()), ((2,), (2, 3)), ((), (2,))):
            self.refused(Unlike, "rule", joined, Row((1,), ends=2, rule=rule), 3, Row((2,), ends=1, rule=other))

    def test_a_shared_stone(self):
        self.refused(Unlike, "stones", joined, Row((1, 2), ends=2), 5, Row((3, 1), ends=1))
        self.refused(Unlike, "stones", joined, Row((1,), ends=2), 5, Row((1,), ends=1))
        self.refused(Unlike, "stones", joined, Row((4, 3, 2), ends=3), 5, Row((1, 0, 2), ends=3))

    def test_how_many_stones_together(self):
        one = Row(tuple(range(20)), ends=2)
        self.assertEqual(len(joined(one, 50, Row(tuple(range(20, 39)), ends=1)).stones), 40)
        self.refused(TooMany, 41, joined, one, 50, Row(tuple(range(20, 40)), ends=1))
        forty = Row(tuple(range(40)), ends=2)
        self.refused(TooMany, 81, joined, forty, 99, Row(tuple(range(40, 80)), ends=1))
        self.refused(TooMany, 42, joined, forty, 99, Row((41,), ends=1))
        self.assertEqual(len(joined(Row(tuple(range(38)), ends=2), 50, Row((41,), ends=1)).stones), 40)

    def test_which_comes_first(self):
        forty = tuple(range(40))
        bad_one, bad_two = Row(forty, rule=(2,)), Row(forty, ends=2)
        self.refused(BadEnds, 0, joined, bad_one, 3, bad_two)
        self.refused(BadEnds, 1, joined, Row(forty, ends=1), 3, Row(forty))
        one, two = Row(forty, ends=2, rule=(2,)), Row(forty, ends=1)
        self.refused(BadEnds, 2, joined, one, 3, bad_two)
        self.refused(BadStone, 39, joined, one, 39, two)
        self.refused(Unlike, "rule", joined, one, 40, two)
        self.refused(Unlike, "stones", joined, Row(forty, ends=2), 40, two)

    def test_names_of_arguments(self):
        self.assertEqual(joined(two=Row((2,), ends=1), top=3, one=Row((1,), ends=2)).stones, (1, 3, 2))


if __name__ == "__main__":
    unittest.main()
