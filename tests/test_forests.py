"""[4], [5] and "above" in [12]: parents and children, records and heads."""

import unittest

from tests import plain
from tests.refusing import RefusingTest
from turnedvalleys.errors import BadStone
from turnedvalleys.forests import above, children, free_heads, heads, held_heads, is_record, parent
from turnedvalleys.lots import lot
from turnedvalleys.rows import Row


class TestParents(RefusingTest):
    def test_example(self):
        row = plain.example()
        self.assertEqual({x: parent(row, x) for x in row},
                         {7: 9, 3: 5, 1: 2, 2: 3, 5: 7, 4: 5, 9: None, 6: 8, 8: 9})
        self.assertEqual({x: children(row, x) for x in row},
                         {7: (None, 5), 3: (None, 2), 1: (None, None), 2: (1, None), 5: (3, 4), 4: (None, None),
                          9: (7, 8), 6: (None, None), 8: (6, None)})
        self.assertEqual(above(row, 1), (2, 3, 5, 7, 9))
        self.assertEqual(above(row, 6), (8, 9))
        self.assertEqual(above(row, 9), ())

    def test_small_rows_by_the_definition(self):
        for row in plain.rows(5):
            for x in row:
                p = plain.parent(row, x)
                self.same_kind(parent(row, x), p)
                chain = []
                while p is not None:
                    chain.append(p)
                    p = plain.parent(row, p)
                self.same_kind(above(row, x), tuple(chain))

    def test_the_parent_is_the_lesser_closer(self):
        for row in plain.rows(6, least=6):
            for x in row:
                stones = [c for c in plain.closers(row, x) if isinstance(c, int)]
                self.assertEqual(parent(row, x), min(stones) if stones else None)

    def test_the_lot_is_the_stone_with_the_lots_of_its_children(self):
        for row in plain.rows(5):
            child_of = {}
            for x in row:
                ahead, behind = children(row, x)
                before = () if ahead is None else lot(row, ahead)
                after = () if behind is None else lot(row, behind)
                self.assertEqual(before + (x,) + after, plain.lot(row, x))
                for c in (ahead, behind):
                    if c is not None:
                        self.assertNotIn(c, child_of)
                        child_of[c] = x
            self.assertEqual(child_of, {x: parent(row, x) for x in row if x != max(row)})

    def test_one_stone(self):
        for ends in plain.ENDS:
            row = Row((-4,), ends=ends)
            self.assertIsNone(parent(row, -4))
            self.assertEqual(children(row, -4), (None, None))
            self.assertEqual(above(row, -4), ())

    def test_long_chain(self):
        row = Row(tuple(range(40)))
        self.assertEqual(above(row, 0), tuple(range(1, 40)))

    def test_no_stones(self):
        for x in (0, 10, -7, 10 ** 30):
            for asked in (parent, children, above, is_record):
                self.refused(BadStone, x, asked, plain.example(), x)

    def test_names_of_arguments(self):
        row = plain.example()
        self.assertEqual(parent(x=2, row=row), 3)
        self.assertEqual(children(x=2, row=row), (1, None))
        self.assertEqual(above(x=7, row=row), (9,))
        self.assertEqual(is_record(x=7, row=row), True)


class TestHeads(RefusingTest):
    def test_example(self):
        row = plain.example()
        self.assertEqual([x for x in row if is_record(row, x)], [7, 9, 8])
        self.assertEqual(heads(row), (2, 3, 5))
        self.assertEqual(free_heads(row), (2, 3, 5))
        self.assertEqual(held_heads(row), ())

    def test_example_with_a_rule(self):
        row = plain.example((2, 5))
        self.assertEqual(heads(row), (2, 3, 5))
        self.assertEqual(free_heads(row), (2, 5))
        self.assertEqual(held_heads(row), (3,))
        row = plain.example(())
        self.assertEqual(free_heads(row), ())
        self.assertEqual(held_heads(row), (2, 3, 5))

    def test_the_four_ends(self):
        self.assertEqual([heads(Row((1, 2), ends=ends)) for ends in plain.ENDS], [(), (), (), (2,)])
        self.assertEqual([heads(Row((1, 2, 3), ends=ends)) for ends in plain.ENDS], [(), (2,), (), (2, 3)])
        self.assertEqual([heads(Row((3, 1, 2), ends=ends)) for ends in plain.ENDS], [(), (), (2,), (2, 3)])
        self.assertEqual([is_record(Row((5,), ends=ends), 5) for ends in plain.ENDS], [True, True, True, False])
        self.assertEqual([heads(Row((5,), ends=ends)) for ends in plain.ENDS], [()] * 4)

    def test_stones_below_zero(self):
        row = Row((-1, -3, -5, -2), ends=2)
        self.assertEqual(heads(row), (-3, -2))
        self.assertEqual(heads(Row((0, -2, -1), ends=3)), (-1, 0))

    def test_small_rows_by_the_definition(self):
        for row in plain.rows(5, plain.RULES):
            self.same_kind(heads(row), plain.heads(row))
            self.same_kind(free_heads(row), plain.free_heads(row))
            self.same_kind(held_heads(row), plain.held_heads(row))
            for x in row:
                self.same_kind(is_record(row, x), "open" in plain.closers(row, x))

    def test_all_stones_in_the_lot_of_an_inner_stone_are_inner(self):
        for row in plain.rows(6, least=6):
            for x in row:
                if not is_record(row, x):
                    self.assertFalse(any(is_record(row, y) for y in lot(row, x)))

    def test_forty_stones(self):
        row = Row(tuple(range(40)), ends=3)
        self.assertEqual(heads(row), tuple(range(1, 40)))
        row = Row(tuple(range(40)), ends=3, rule=(40,))
        self.assertEqual(free_heads(row), (39,))
        self.assertEqual(held_heads(row), tuple(range(1, 39)))


if __name__ == "__main__":
    unittest.main()
