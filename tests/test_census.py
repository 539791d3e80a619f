"""[29]: census."""

import unittest
from collections import Counter
from math import factorial

from tests import plain
from tests.counting import BAD_RULES, EVERY, counted
from tests.refusing import RefusingTest
from turnedvalleys.census import census
from turnedvalleys.errors import BadEnds, BadRule, BadSize

RULES = (None, (), (2,), (3,), (2, 4), (2, 5), EVERY)


def peaks(row):
    """How many stones have a lesser stone right beside them on both sides of their lots."""
    found = 0
    for x in row.stones:
        stones = plain.lot(row, x)
        found += stones[0] != x and stones[-1] != x
    return found


class TestCensus(RefusingTest):
    def test_examples(self):
        self.same_kind(census(4), ((0, 0, 4), (0, 1, 16), (1, 0, 2)))
        self.same_kind(census(4, ends=3), ((2, 1, 4), (3, 0, 1)))
        for ends in plain.ENDS:
            self.same_kind(census(1, ends=ends), ((0, 0, 1),))

    def test_by_joining_all_orders_by_turns(self):
        for n in range(1, 6):
            for ends in plain.ENDS:
                for rule in RULES:
                    found = Counter()
                    for rows in plain.classes_of(range(n), ends, rule):
                        numbers = {(len(plain.free_heads(row)), peaks(row)) for row in rows}
                        self.assertEqual(len(numbers), 1)
                        found[numbers.pop()] += 1
                    said = tuple(sorted((d, p, many) for (d, p), many in found.items()))
                    self.same_kind(census(n, ends=ends, rule=rule), said)

    def test_the_two_sums(self):
        for n in (1, 2, 3, 6, 7, 11, 16, 23, 24):
            for ends in plain.ENDS:
                for rule in RULES + ((2, 3, 5, 7, 11, 13, 17, 19, 23),):
                    found = census(n, ends=ends, rule=rule)
                    self.assertEqual(sum(many for _, _, many in found), counted(n, ends, rule))
                    self.assertEqual(sum(2 ** d * many for d, _, many in found), factorial(n))
                    self.assertEqual(found, tuple(sorted(found)))
                    self.assertEqual(len({(d, p) for d, p, _ in found}), len(found))
                    self.assertTrue(all(many > 0 for _, _, many in found))

    def test_rows_by_peaks(self):
        # Without any turn each row is a class; so the ends do not count.
        for n in (5, 6):
            found = Counter(peaks(plain.Row(stones)) for stones in plain.orders(n, n))
            for ends in plain.ENDS:
                self.assertEqual(census(n, ends=ends, rule=()), tuple((0, p, found[p]) for p in sorted(found)))

    def test_between_walls_the_peaks_tell_the_dimension(self):
        for n in (2, 9, 24):
            self.assertTrue(all(d + p == n - 1 for d, p, _ in census(n, ends=3)))

    def test_a_rule_of_all_lengths(self):
        for ends in plain.ENDS:
            self.assertEqual(census(24, ends=ends, rule=EVERY), census(24, ends=ends))

    def test_bad_sizes(self):
        for n in (0, 25, -1, 60, 10 ** 30):
            for ends in plain.ENDS + (4,):
                self.refused(BadSize, n, census, n, ends=ends)
                self.refused(BadSize, n, census, n, ends=ends, rule=(1,))

    def test_bad_ends_and_rules(self):
        for n in (1, 5, 24):
            for ends in (-1, 4, 10 ** 30):
                self.refused(BadEnds, ends, census, n, ends=ends)
                self.refused(BadEnds, ends, census, n, ends=ends, rule=(1,))
            for rule, i in BAD_RULES:
                for ends in plain.ENDS:
                    self.refused(BadRule, i, census, n, ends=ends, rule=rule)

    def test_names_of_arguments(self):
        self.assertEqual(census(rule=None, ends=3, n=4), ((2, 1, 4), (3, 0, 1)))
        with self.assertRaises(TypeError):
            census(4, 3)


if __name__ == "__main__":
    unittest.main()
