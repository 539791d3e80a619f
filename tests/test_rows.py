"""[2]: the class Row."""

import unittest

from tests.refusing import RefusingTest
from turnedvalleys.errors import BadEnds, BadRule, BadSize, BadStone
from turnedvalleys.rows import Row

GREAT = 10 ** 15


class TestRow(RefusingTest):
    def test_fields(self):
        row = Row((3, -1, 2))
        self.assertEqual((row.stones, row.ends, row.rule), ((3, -1, 2), 0, None))
        row = Row((3, 1), ends=2, rule=(2, 5))
        self.assertEqual((row.stones, row.ends, row.rule), ((3, 1), 2, (2, 5)))
        row = Row(stones=(0,), rule=(), ends=3)
        self.assertEqual((row.stones, row.ends, row.rule), ((0,), 3, ()))

    def test_ends_and_rule_only_by_name(self):
        with self.assertRaises(TypeError):
            Row((1, 2), 0)

    def test_how_many_stones(self):
        self.refused(BadSize, 0, Row, ())
        self.assertEqual(Row((5,)).stones, (5,))
        self.assertEqual(Row(tuple(range(40))).stones, tuple(range(40)))
        self.refused(BadSize, 41, Row, tuple(range(41)))
        self.refused(BadSize, 1000, Row, (1,) * 1000)

    def test_how_great_stones_are(self):
        for x in (GREAT - 1, 1 - GREAT, 0):
            self.assertEqual(Row((x,)).stones, (x,))
        for x in (GREAT, -GREAT, GREAT + 1, -GREAT - 1, 10 ** 30, -10 ** 30):
            self.refused(BadStone, 0, Row, (x,))
            self.refused(BadStone, 2, Row, (1, 2, x, 3, x))

    def test_a_stone_twice(self):
        self.refused(BadStone, 1, Row, (4, 4))
        self.refused(BadStone, 3, Row, (1, 2, 3, 1, 2))
        self.refused(BadStone, 39, Row, tuple(range(39)) + (0,))

    def test_the_first_bad_stone_of_either_kind(self):
        self.refused(BadStone, 2, Row, (1, 2, 1, GREAT))
        self.refused(BadStone, 1, Row, (1, GREAT, 1))

    def test_ends(self):
        for ends in (0, 1, 2, 3):
            self.same_kind(Row((1, 2), ends=ends).ends, ends)
        for ends in (-1, 4, -10 ** 20, 10 ** 20):
            self.refused(BadEnds, ends, Row, (1, 2), ends=ends)

    def test_rules(self):
        for rule in (None, (), (2,), (40,), (2, 40), tuple(range(2, 41)), (3, 4, 9)):
            self.assertEqual(Row((1, 2), rule=rule).rule, rule)
        self.refused(BadRule, 0, Row, (1, 2), rule=(1,))
        self.refused(BadRule, 0, Row, (1, 2), rule=(0,))
        self.refused(BadRule, 0, Row, (1, 2), rule=(-2, 3))
        self.refused(BadRule, 0, Row, (1, 2), rule=(41,))
        self.refused(BadRule, 1, Row, (1, 2), rule=(2, 41, 3))
        self.refused(BadRule, 1, Row, (1, 2), rule=(5, 5))
        self.refused(BadRule, 1, Row, (1, 2), rule=(5, 4))
        self.refused(BadRule, 2, Row, (1, 2), rule=(5, 6, 2, 41))
        self.refused(BadRule, 39, Row, (1, 2), rule=tuple(range(2, 42)))
        self.refused(BadRule, 0, Row, (1, 2), rule=(10 ** 30,))

    def test_which_comes_first(self):
        self.refused(BadSize, 0, Row, (), ends=4, rule=(1,))
        self.refused(BadSize, 41, Row, (GREAT,) * 41)
        self.refused(BadStone, 1, Row, (1, 1), ends=4, rule=(1,))
        self.refused(BadEnds, 4, Row, (1, 2), rule=(1,), ends=4)

    def test_in(self):
        row = Row((3, -1, 2))
        self.same_kind(3 in row, True)
        self.same_kind(-1 in row, True)
        self.same_kind(0 in row, False)
        self.same_kind(10 ** 30 in row, False)

    def test_iterated(self):
        self.assertEqual(list(Row((3, -1, 2))), [3, -1, 2])
        row = Row((5, 4))
        self.assertEqual([(x, y) for x in row for y in row], [(5, 5), (5, 4), (4, 5), (4, 4)])

    def test_place(self):
        row = Row((3, -1, 2))
        self.assertEqual([row.place(x) for x in (3, -1, 2)], [0, 1, 2])
        self.assertEqual(row.place(x=2), 2)
        for x in (0, 1, -3, 10 ** 30):
            self.refused(BadStone, x, row.place, x)

    def test_methods_stand_in_the_class_itself(self):
        for name in ("__init__", "__contains__", "__iter__", "place"):
            self.assertIn(name, vars(Row))

    def test_not_compared(self):
        self.assertFalse(Row((1, 2)) == Row((1, 2)))


if __name__ == "__main__":
    unittest.main()
