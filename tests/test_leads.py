"""[19], [20]: leader, order_of, and what changes tell."""

import unittest
from itertools import product

from tests import plain
from tests.refusing import RefusingTest
from turnedvalleys.errors import BadHead, BadPair, BadStone
from turnedvalleys.leads import leader, order_of
from turnedvalleys.rows import Row


class TestLeaders(RefusingTest):
    def test_example(self):
        row = plain.example((2, 5))
        self.assertEqual([leader(row, x) for x in (2, 3, 5)], [2, 5, 5])
        self.assertEqual([leader(plain.example(), x) for x in (2, 3, 5)], [2, 3, 5])
        self.assertEqual([leader(plain.example(()), x) for x in (2, 3, 5)], [None, None, None])
        self.assertEqual([leader(plain.example((3,)), x) for x in (2, 3, 5)], [3, 3, None])

    def test_small_rows_by_the_words(self):
        for row in plain.rows(5, (None, (), (2,), (3,), (2, 4), (3, 5), (5,))):
            known = plain.heads(row)
            for x in range(-1, 6):
                if x in known:
                    self.same_kind(leader(row, x), plain.leader(row, x))
                else:
                    self.refused(BadHead, x, leader, row, x)

    def test_a_head_without_a_head_above(self):
        # The parent of 2 is the record 3.
        self.assertIsNone(leader(Row((3, 1, 2), ends=2, rule=()), 2))
        self.assertEqual(leader(Row((3, 1, 2), ends=2, rule=(2,)), 2), 2)

    def test_forty_stones(self):
        row = Row(tuple(range(40)), ends=3, rule=(11, 31))
        self.assertEqual([leader(row, x) for x in (1, 9, 10, 11, 30, 31, 39)], [10, 10, 10, 30, 30, None, None])

    def test_strangers_records_and_leaves(self):
        for rule in (None, (), (2, 5)):
            for x in (7, 9, 8, 1, 4, 6, 0, 10, -2, 10 ** 30, -10 ** 30):
                self.refused(BadHead, x, leader, plain.example(rule), x)
        self.refused(BadHead, 5, leader, Row((5,), ends=3), 5)

    def test_names_of_arguments(self):
        self.assertEqual(leader(x=3, row=plain.example((2, 5))), 5)


class TestOrders(RefusingTest):
    def test_example(self):
        row = plain.example()
        self.same_kind(order_of(row, 1, 4), "either")
        self.same_kind(order_of(row, 9, 7), "behind")
        self.same_kind(order_of(row, 7, 9), "ahead")
        row = plain.example((2, 5))
        self.assertEqual([order_of(row, 1, y) for y in (2, 3, 4, 5, 6, 7)],
                         ["either"] * 4 + ["ahead", "behind"])
        row = plain.example((3,))
        self.assertEqual([order_of(row, 1, y) for y in (2, 3, 4, 5, 6, 7)],
                         ["either", "either", "ahead", "ahead", "ahead", "behind"])

    def test_small_classes_by_a_look_at_all_rows(self):
        for rows in plain.classes(4, plain.RULES + ((3, 4), (4,)), least=2):
            self.look_at_all(rows)
        for rule in (None, (), (3,), (2, 5), (5,), (4,)):
            for rows in plain.classes_of(range(5), 3, rule):
                self.look_at_all(rows)

    def look_at_all(self, rows):
        """With "either" half of the rows have x ahead of y, otherwise all or none."""
        for row in rows[::3]:
            for x, y in product(row.stones, repeat=2):
                if x != y:
                    many = sum(plain.ahead(one, x, y) for one in rows)
                    said = {len(rows): "ahead", 0: "behind"}.get(many, "either")
                    self.same_kind(order_of(row, x, y), said)
                    self.assertTrue(said != "either" or 2 * many == len(rows))

    def test_sides_in_a_class_go_with_the_leader(self):
        for rule in (None, (2,), (3,), (2, 4), (3, 5)):
            for rows in plain.classes_of(range(5), 3, rule):
                row = rows[0]
                for two in rows:
                    changed = {x for x in plain.heads(row) if plain.side(row, x) != plain.side(two, x)}
                    for x in plain.heads(row):
                        self.assertEqual(x in changed, leader(row, x) in changed)

    def test_forty_stones(self):
        row = Row(tuple(range(40)), ends=3, rule=(11, 31))
        self.assertEqual(order_of(row, 3, 10), "either")
        self.assertEqual(order_of(row, 3, 30), "either")
        self.assertEqual(order_of(row, 3, 31), "ahead")
        self.assertEqual(order_of(row, 39, 0), "behind")

    def test_strangers_ahead_of_one_stone_twice(self):
        row = plain.example()
        for x in (0, 10, -7, 10 ** 30):
            self.refused(BadStone, x, order_of, row, x, 1)
            self.refused(BadStone, x, order_of, row, 1, x)
            self.refused(BadStone, x, order_of, row, x, x)
            self.refused(BadStone, x, order_of, row, x, 11)
            self.refused(BadStone, 11, order_of, row, 11, x)

    def test_one_stone_twice(self):
        for rule in (None, (), (2, 5)):
            for x in plain.EXAMPLE:
                self.refused(BadPair, (x, x), order_of, plain.example(rule), x, x)
        self.refused(BadPair, (5, 5), order_of, Row((5,)), 5, 5)

    def test_names_of_arguments(self):
        self.assertEqual(order_of(y=7, x=9, row=plain.example()), "behind")


if __name__ == "__main__":
    unittest.main()
