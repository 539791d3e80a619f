"""[22]: wishes_fewest, wishes_row, wishes_first."""

import unittest
from itertools import combinations, permutations, product

from tests import plain
from tests.refusing import RefusingTest
from tests.values import NO_WISHES
from turnedvalleys.errors import BadWish, NotKept, TooMany
from turnedvalleys.rows import Row
from turnedvalleys.runs import walked
from turnedvalleys.wishes import wishes_clash
from turnedvalleys.wishrows import wishes_fewest, wishes_first, wishes_row

ALL = (wishes_fewest, wishes_row, wishes_first)
LONG = Row(tuple(range(40)), ends=3)
FAR = walked(LONG, (39, 30, 17, 16, 5, 2, 1))


def beside(stones):
    """The wishes that each stone stands ahead of the one that is next to it."""
    return tuple(zip(stones, stones[1:]))


class TestWishRows(RefusingTest):
    def test_example(self):
        row = plain.example()
        wishes = ((2, 1), (4, 3))
        self.same_kind(wishes_fewest(row, wishes), 1)
        said = ((7, 4, 5, 2, 1, 3, 9, 6, 8), 0, None)
        self.assertEqual(plain.whole(wishes_row(row, wishes)), said)
        self.assertEqual(plain.whole(wishes_first(row, wishes)), said)

    def test_no_wish(self):
        for rows in plain.classes(4, (None, (2,), (3,), ())):
            for row in rows:
                self.same_kind(wishes_fewest(row, ()), 0)
                self.assertEqual(plain.whole(wishes_row(row, ())), plain.whole(row))
                self.assertEqual(plain.whole(wishes_first(row, ())), plain.whole(rows[0]))

    def test_small_classes_by_a_look_at_all_rows(self):
        for rows in plain.classes(4, (None, (2,), (3,), (2, 4)), least=2):
            wishes = list(permutations(rows[0].stones, 2))
            for row in rows[::3]:
                far = plain.distances(row)
                for many in (1, 2):
                    for some in list(product(wishes, repeat=many))[::2 * many - 1]:
                        self.look_at_all(rows, row, far, some)

    def test_all_orders_of_a_row(self):
        for rule in (None, (2, 5), (3, 4), (2, 3, 8), (2, 4, 6, 8)):
            rows = plain.class_of(Row((2, 0, 1, 7, 4, 3, 6, 5), ends=3, rule=rule))
            for row in (rows[0], rows[len(rows) // 2], rows[-1]):
                far = plain.distances(row)
                for one in rows[::5]:
                    orders = tuple(pair for pair in permutations(range(8), 2) if plain.ahead(one, *pair))
                    self.look_at_all(rows, row, far, orders)
                    self.assertEqual(wishes_fewest(row, orders), far[one.stones])
                    self.assertEqual(wishes_row(row, orders).stones, one.stones)
                    for step in (2, 3, 5, 9):
                        self.look_at_all(rows, row, far, orders[::step])
                        self.look_at_all(rows, row, far, orders[1::step])
                    self.look_at_all(rows, row, far, beside(one.stones)[2:])

    def test_one_turn_for_several_heads_beneath(self):
        # The heads 1, 3 and 5 all ask the other side, and so does the lot of 6 or of 8 with just one turn.
        row = Row((0, 1, 6, 2, 3, 8, 4, 5), ends=3)
        self.assertEqual(wishes_fewest(row, ((1, 0), (3, 2))), 1)
        self.assertEqual(wishes_row(row, ((1, 0), (3, 2))).stones, (3, 2, 6, 1, 0, 8, 4, 5))
        self.assertEqual(wishes_fewest(row, ((1, 0), (3, 2), (5, 4))), 1)
        self.assertEqual(wishes_fewest(row, ((1, 0), (3, 2), (5, 4), (0, 8))), 2)
        for rule in (None, (2,), (2, 5), (2, 8)):
            row = Row((0, 1, 6, 2, 3, 8, 4, 5), ends=3, rule=rule)
            rows = plain.class_of(row)
            far = plain.distances(row)
            lesser = ((1, 0), (3, 2), (5, 4), (2, 6), (5, 8), (1, 3), (0, 1), (8, 6))
            for many in (2, 3, 4):
                for some in combinations(lesser, many):
                    self.look_at_all(rows, row, far, some)

    def test_rows_of_nine_and_ten_stones(self):
        for stones, ends in ((plain.EXAMPLE, 3), (tuple(range(10)), 3), ((5, 1, 0, 9, 4, 2, 3, 8, 7, 6), 1),
                             ((9, 4, 1, 0, 6, 2, 3, 5, 8), 2)):
            rows = plain.class_of(Row(stones, ends=ends))
            row = rows[len(rows) // 3]
            far = plain.distances(row)
            wishes = list(permutations(stones, 2))
            for k in range(30):
                some = tuple(wishes[(7 * k + 31 * t) % len(wishes)] for t in range(k % 4))
                self.look_at_all(rows, row, far, some)

    def look_at_all(self, rows, row, far, some):
        kept = [one.stones for one in rows if plain.keeps(one, some)]
        if not kept:
            i = wishes_clash(row, some)[-1]
            for ask in ALL:
                self.refused(NotKept, i, ask, row, some)
            return
        least = min(far[stones] for stones in kept)
        self.same_kind(wishes_fewest(row, some), least)
        near = wishes_row(row, some)
        self.assertIn(near.stones, kept)
        self.assertEqual(far[near.stones], least)
        first = wishes_first(row, some)
        self.assertEqual(first.stones, kept[0])
        for one in (near, first):
            self.assertIsInstance(one, Row)
            self.assertEqual((one.ends, one.rule), (row.ends, row.rule))

    def test_forty_stones(self):
        wishes = beside(FAR.stones)
        self.assertEqual(wishes_fewest(LONG, wishes), 7)
        self.assertEqual(wishes_row(LONG, wishes).stones, FAR.stones)
        self.assertEqual(wishes_first(LONG, wishes).stones, FAR.stones)
        self.assertEqual(wishes_first(FAR, ()).stones, LONG.stones)
        self.assertEqual(wishes_fewest(FAR, ((39, 0),)), 0)
        self.assertEqual(wishes_row(FAR, ((39, 0),)).stones, FAR.stones)
        # 39 stands first; behind it, all others ascend.
        self.assertEqual(wishes_first(LONG, ((39, 0),)).stones, (39,) + tuple(range(39)))
        self.assertEqual(wishes_fewest(LONG, ((39, 0),)), 1)

    def test_two_hundred_wishes(self):
        orders = tuple((x, y) for x in range(40) for y in range(40) if plain.ahead(FAR, x, y))
        wishes = beside(FAR.stones) + orders[:161]
        self.assertEqual(len(wishes), 200)
        self.assertEqual(wishes_fewest(LONG, wishes), 7)
        for ask in (wishes_row, wishes_first):
            self.assertEqual(ask(LONG, wishes).stones, FAR.stones)
            self.assertEqual(ask(FAR, wishes).stones, FAR.stones)
        x, y = wishes[0]
        for ask in ALL:
            self.refused(NotKept, 199, ask, LONG, wishes[:199] + ((y, x),))
            for many in (wishes + wishes[:1], ((0, 0),) * 201, (None,) * 250):
                self.refused(TooMany, len(many), ask, LONG, many)

    def test_no_row_keeps_them(self):
        row = plain.example()
        for wishes, i in ((((1, 4), (4, 2)), 1), (((9, 7),), 0), (((2, 1), (4, 3), (1, 2), (9, 7)), 2),
                          (((1, 2), (1, 2), (7, 9), (9, 7)), 3)):
            for ask in ALL:
                self.refused(NotKept, i, ask, row, wishes)

    def test_what_is_no_wish(self):
        row = plain.example()
        for bad in NO_WISHES:
            for ask in ALL:
                self.refused(BadWish, 0, ask, row, (bad,))
                self.refused(BadWish, 2, ask, row, ((9, 7), (1, 2), bad, None))

    def test_names_of_arguments_and_nothing_changed(self):
        row = plain.example((2, 5))
        self.assertEqual(wishes_fewest(wishes=((2, 1),), row=row), 1)
        self.assertEqual(wishes_row(wishes=((2, 1),), row=row).stones, (7, 3, 2, 1, 5, 4, 9, 6, 8))
        self.assertEqual(wishes_first(wishes=((5, 3),), row=row).stones, (7, 4, 5, 1, 2, 3, 9, 6, 8))
        self.assertEqual(plain.whole(row), plain.whole(plain.example((2, 5))))


if __name__ == "__main__":
    unittest.main()
