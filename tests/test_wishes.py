"""[21]: wishes_right, wishes_count, wishes_clash; [20]: what wishes ask of changes."""

import unittest
from itertools import permutations, product

from tests import plain
from tests.refusing import RefusingTest
from tests.values import ANY, NO_WISHES
from turnedvalleys.errors import BadWish, TooMany
from turnedvalleys.rows import Row
from turnedvalleys.wishes import wishes_clash, wishes_count, wishes_right

LONG = Row(tuple(range(40)), ends=3)


def plain_clash(rows, wishes):
    """The clash, by a look at all rows of the class."""
    for i in range(len(wishes)):
        if not any(plain.keeps(row, wishes[:i + 1]) for row in rows):
            if not any(plain.keeps(row, wishes[i:i + 1]) for row in rows):
                return (i,)
            for j in range(i):
                if not any(plain.keeps(row, (wishes[j], wishes[i])) for row in rows):
                    return (j, i)
    return None


class TestCounts(RefusingTest):
    def test_example(self):
        row = plain.example()
        self.same_kind(wishes_clash(row, ((1, 4), (4, 2))), (0, 1))
        self.same_kind(wishes_clash(row, ((9, 7),)), (0,))
        self.same_kind(wishes_count(row, ((2, 1), (4, 3))), 2)
        self.assertIsNone(wishes_clash(row, ((2, 1), (4, 3))))
        self.same_kind(wishes_count(row, ((1, 4), (4, 2))), 0)
        self.same_kind(wishes_count(row, ((9, 7),)), 0)

    def test_no_wish(self):
        for row in plain.rows(4, (None, (2,), ())):
            self.same_kind(wishes_count(row, ()), len(plain.distances(row)))
            self.assertIsNone(wishes_clash(row, ()))
            self.assertIs(wishes_right(row, ()), True)

    def test_small_classes_by_a_look_at_all_rows(self):
        for rows in plain.classes(4, (None, (2,), (3,), (2, 4), ()), least=2):
            wishes = list(permutations(rows[0].stones, 2))
            for row in rows[::3]:
                for many in (1, 2):
                    for some in list(product(wishes, repeat=many))[::many]:
                        self.look_at_all(rows, row, some)

    def test_three_wishes(self):
        for rule in (None, (2,), (3,)):
            for stones in ((1, 0, 3, 2), (3, 0, 1, 2), (0, 2, 1, 3)):
                rows = plain.class_of(Row(stones, ends=3, rule=rule))
                for some in list(product(permutations(stones, 2), repeat=3))[::5]:
                    self.look_at_all(rows, rows[-1], some)

    def test_many_wishes_of_larger_rows(self):
        for rule in (None, (2, 5), (3, 4), (5,), (2, 3, 8)):
            rows = plain.class_of(Row((2, 0, 1, 7, 4, 3, 6, 5), ends=3, rule=rule))
            row = rows[len(rows) // 2]
            wishes = list(permutations(range(8), 2))
            for start in range(0, 56, 3):
                for step in (1, 5, 11, 19):
                    some = tuple(wishes[(start + step * k) % 56] for k in range(5))
                    self.look_at_all(rows, row, some)
            for one in rows[::7]:
                orders = tuple((x, y) for x, y in wishes if plain.ahead(one, x, y))
                self.look_at_all(rows, row, orders)
                self.look_at_all(rows, row, orders[::3] + orders[::-2])

    def look_at_all(self, rows, row, some):
        self.same_kind(wishes_count(row, some), sum(plain.keeps(one, some) for one in rows))
        self.same_kind(wishes_clash(row, some), plain_clash(rows, some))
        self.same_kind(wishes_right(row, some), plain.keeps(row, some))

    def test_one_wish_twice_and_turned_about(self):
        row = plain.example()
        self.assertEqual(wishes_count(row, ((2, 1), (2, 1))), 4)
        self.assertIsNone(wishes_clash(row, ((2, 1), (2, 1))))
        self.assertEqual(wishes_count(row, ((2, 1), (1, 2))), 0)
        self.assertEqual(wishes_clash(row, ((2, 1), (1, 2))), (0, 1))
        self.assertEqual(wishes_clash(row, ((2, 1), (2, 1), (1, 2))), (0, 2))
        self.assertEqual(wishes_clash(row, ((3, 5), (2, 1), (7, 9), (1, 2), (9, 7))), (1, 3))
        self.assertEqual(wishes_clash(row, ((3, 5), (2, 1), (9, 7), (1, 2))), (2,))
        self.assertEqual(wishes_clash(row, ((7, 9), (9, 7))), (1,))

    def test_held_heads_ask_their_leader(self):
        row = plain.example((2, 5))
        self.assertEqual(wishes_clash(row, ((3, 1), (5, 3))), (0, 1))
        self.assertEqual(wishes_clash(row, ((3, 1), (1, 2), (3, 5), (1, 3))), (0, 3))
        self.assertEqual(wishes_count(row, ((3, 1), (3, 5))), 2)
        self.assertIsNone(wishes_clash(plain.example(), ((3, 1), (5, 3))))

    def test_two_hundred_wishes(self):
        pairs = tuple((x, y) for x in range(40) for y in range(x + 1, 40))
        self.assertEqual(wishes_count(LONG, pairs[:200]), 2 ** 39 // 2 ** 39)
        self.assertIs(wishes_right(LONG, pairs[:200]), True)
        self.assertEqual(wishes_count(LONG, ((0, 1),) * 200), 2 ** 38)
        self.assertEqual(wishes_clash(LONG, ((0, 1),) * 199 + ((1, 0),)), (0, 199))
        self.assertIs(wishes_right(LONG, ((0, 1),) * 199 + ((1, 0),)), False)
        for wishes in (pairs[:201], ((0, 1),) * 201, ((0, 0),) * 201, (None,) * 300):
            self.refused(TooMany, len(wishes), wishes_count, LONG, wishes)
            self.refused(TooMany, len(wishes), wishes_clash, LONG, wishes)
            self.assertIs(wishes_right(LONG, wishes), False)

    def test_what_is_no_wish_at_each_index(self):
        row = plain.example()
        good = ((1, 2), (9, 7), (7, 9), (2, 1))
        for bad in NO_WISHES:
            for ask in (wishes_count, wishes_clash):
                for i in range(5):
                    self.refused(BadWish, i, ask, row, good[:i] + (bad,) + good[i:])
                self.refused(BadWish, 1, ask, row, ((1, 2), bad, None, bad))
                self.refused(BadWish, 199, ask, row, ((1, 2),) * 199 + (bad,))
            self.assertIs(wishes_right(row, (bad,)), False)
            self.assertIs(wishes_right(row, ((1, 2), bad)), False)
            self.assertIs(wishes_right(row, (bad, (1, 2))), False)

    def test_names_of_arguments(self):
        row = plain.example()
        self.assertIs(wishes_right(wishes=((1, 2),), row=row), True)
        self.assertEqual(wishes_count(wishes=((1, 2),), row=row), 4)
        self.assertEqual(wishes_clash(wishes=((9, 7),), row=row), (0,))


class TestRight(RefusingTest):
    def test_a_row_keeps_its_own_orders(self):
        for stones in plain.orders(4, 2):
            row = Row(stones)
            for some in product(permutations(stones, 2), repeat=2):
                self.same_kind(wishes_right(row, some), plain.keeps(row, some))

    def test_things_that_are_no_tuple_of_wishes(self):
        for row in (plain.example(), Row((1, 2)), LONG, Row((0,), ends=3)):
            for value in ANY:
                self.assertIs(wishes_right(row, value), False)
        row = Row((1, 2))
        self.assertIs(wishes_right(row, ((1, 2),)), True)
        self.assertIs(wishes_right(row, ((2, 1),)), False)
        for value in ((1, 2), "12", 12, None, ((1, 2), 1), ((1, 2), None), ((1, 2), "12"), (((1, 2),),)):
            self.assertIs(wishes_right(row, value), False)


if __name__ == "__main__":
    unittest.main()
