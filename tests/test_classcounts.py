"""[28]: class_count."""

import unittest
from math import factorial

from tests import plain
from tests.counting import BAD_RULES, EVERY, counted
from tests.refusing import RefusingTest
from turnedvalleys.classcounts import class_count
from turnedvalleys.errors import BadEnds, BadRule, BadSize
from turnedvalleys.zigzags import zigzag


class TestClassCount(RefusingTest):
    def test_examples(self):
        said = ((1, 2, 6, 22, 96, 482, 2736), (1, 2, 5, 16, 61, 272, 1385), (1, 2, 5, 16, 61, 272, 1385),
                (1, 1, 2, 5, 16, 61, 272))
        for ends in plain.ENDS:
            self.assertEqual(tuple(class_count(n, ends=ends) for n in range(1, 8)), said[ends])
            self.assertEqual(class_count(5, ends=ends, rule=(2,)), (100, 80, 80, 66)[ends])
            self.assertEqual(class_count(5, ends=ends, rule=(3,)), (114, 99, 99, 84)[ends])
        self.same_kind(class_count(9), 120576)
        self.same_kind(class_count(9, rule=(2, 5)), 185976)

    def test_by_joining_all_orders_by_turns(self):
        rules = (None, (), (2,), (3,), (2, 4), (5,), (2, 3, 4, 5, 6), EVERY)
        for n in range(1, 6):
            for ends in plain.ENDS:
                for rule in rules:
                    self.same_kind(class_count(n, ends=ends, rule=rule),
                                   len(list(plain.classes_of(range(n), ends, rule))))

    def test_by_the_words_for_all_sizes(self):
        for n in list(range(1, 12)) + [20, 39, 40, 41, 42, 43, 59, 60]:
            for ends in plain.ENDS:
                for rule in (None, (), (2,), (2, 5), (3, 40), (40,), EVERY, EVERY[:-1]):
                    self.same_kind(class_count(n, ends=ends, rule=rule), counted(n, ends, rule))

    def test_zigzags_and_factorials(self):
        for n in range(1, 61):
            self.assertEqual(class_count(n, ends=3), zigzag(n))
            self.assertEqual(class_count(n, ends=1), zigzag(n + 1))
            self.assertEqual(class_count(n, ends=2), zigzag(n + 1))
            self.assertEqual(class_count(n), (zigzag(n + 2) + zigzag(n)) // 3)
            for ends in plain.ENDS:
                self.assertEqual(class_count(n, ends=ends, rule=()), factorial(n))

    def test_lengths_above_forty_are_let_by_none_alone(self):
        for ends in plain.ENDS:
            self.assertEqual(class_count(40, ends=ends, rule=EVERY), class_count(40, ends=ends))
            for n in (43, 60):
                self.assertGreater(class_count(n, ends=ends, rule=EVERY), class_count(n, ends=ends))
        self.assertEqual(class_count(41, ends=3, rule=EVERY), 2 * zigzag(41))
        for ends in (0, 1, 2):
            self.assertEqual(class_count(41, ends=ends, rule=EVERY), class_count(41, ends=ends))

    def test_bad_sizes(self):
        for n in (0, 61, -1, 100, 10 ** 30, -10 ** 30):
            for ends in plain.ENDS + (4,):
                self.refused(BadSize, n, class_count, n, ends=ends)
                self.refused(BadSize, n, class_count, n, ends=ends, rule=(1,))

    def test_bad_ends_and_rules(self):
        for n in (1, 5, 60):
            for ends in (-1, 4, 10 ** 30):
                self.refused(BadEnds, ends, class_count, n, ends=ends)
                self.refused(BadEnds, ends, class_count, n, ends=ends, rule=(1,))
            for rule, i in BAD_RULES:
                for ends in plain.ENDS:
                    self.refused(BadRule, i, class_count, n, ends=ends, rule=rule)

    def test_names_of_arguments(self):
        self.assertEqual(class_count(rule=(2,), ends=1, n=5), 80)
        with self.assertRaises(TypeError):
            class_count(5, 1)


if __name__ == "__main__":
    unittest.main()
