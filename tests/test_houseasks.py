"""[41]: the four questions to a house."""

import unittest
from itertools import permutations

from tests import plain
from tests.refusing import RefusingTest
from turnedvalleys.errors import NoGoal, NotSame
from turnedvalleys.house import House
from turnedvalleys.houseasks import can, left, way, why
from turnedvalleys.nopapers import paper, paper_right
from turnedvalleys.rows import Row

AIMED = (7, 4, 5, 1, 2, 3, 9, 6, 8)
ASKED = (can, left, way, why)


def aimed(row, stones):
    """A house with a row and a goal."""
    house = House(row)
    house.aim(stones)
    return house


class TestAsks(RefusingTest):
    def test_without_a_goal(self):
        house = House(plain.example())
        for asked in ASKED:
            self.refused(NoGoal, 0, asked, house)
        for name, told in (("put", (0, 0)), ("take", (9,)), ("undo", ())):
            house = aimed(plain.example(), AIMED)
            getattr(house, name)(*told)
            for asked in ASKED:
                self.refused(NoGoal, 0, asked, house)

    def test_a_goal_that_comes(self):
        house = aimed(plain.example(), AIMED)
        self.same_kind(can(house), True)
        self.same_kind(left(house), 2)
        self.same_kind(way(house), (2, 5))
        self.assertIsNone(why(house))
        self.assertEqual(house.deeds(), (("aim", AIMED),))

    def test_a_goal_that_does_not_come(self):
        house = aimed(Row((1, 3, 2), ends=3), (3, 1, 2))
        self.same_kind(can(house), False)
        self.refused(NotSame, 1, left, house)
        self.refused(NotSame, 1, way, house)
        self.same_kind(why(house), ("lot", 2))
        self.assertEqual(house.deeds(), (("aim", (3, 1, 2)),))

    def test_small_rows(self):
        for row in plain.rows(3, plain.RULES):
            kin = plain.distances(row)
            for stones in permutations(range(len(row.stones))):
                self.check_house(row, stones, kin)

    def check_house(self, row, stones, kin):
        house = aimed(row, stones)
        self.same_kind(can(house), stones in kin)
        goal = plain.like(row, stones)
        self.assertEqual(why(house), paper(row, goal))
        if stones in kin:
            self.same_kind(left(house), kin[stones])
            house.lay(way(house))
            self.assertEqual(house.row().stones, stones)
            self.assertEqual(left(house), 0)
            self.assertEqual(way(house), ())
        else:
            self.assertIs(paper_right(row, goal, why(house)), True)
            self.refused(NotSame, 1, left, house)
            self.refused(NotSame, 1, way, house)

    def test_each_turn_changes_what_is_left_by_one(self):
        for rule in (None, (2, 5)):
            house = aimed(plain.example(rule), plain.EXAMPLE)
            for x in (5, 2, 2, 3, 5, 3, 2):
                if x in plain.free_heads(house.row()):
                    was = left(house)
                    house.turn(x)
                    self.assertEqual(abs(left(house) - was), 1)
                    self.assertIs(can(house), True)
                    self.assertIsNone(why(house))
            house.lay(way(house))
            self.assertEqual(left(house), 0)

    def test_turns_change_neither_whether_the_goal_comes_nor_the_paper(self):
        for rule in (None, (2, 5), (3,)):
            for stones in ((9, 8, 7, 6, 5, 4, 3, 2, 1), (7, 3, 1, 2, 5, 4, 9, 8, 6), AIMED):
                house = aimed(plain.example(rule), stones)
                was = (can(house), why(house))
                for x in plain.free_heads(house.row()):
                    house.turn(x)
                    self.assertEqual((can(house), why(house)), was)
                house.lay(plain.free_heads(house.row()))
                self.assertEqual((can(house), why(house)), was)

    def test_the_goal_of_an_undone_aim(self):
        house = aimed(plain.example(), AIMED)
        house.aim(plain.EXAMPLE)
        self.assertEqual(left(house), 0)
        house.undo()
        self.assertEqual(left(house), 2)

    def test_names_of_arguments(self):
        house = aimed(plain.example(), AIMED)
        self.assertEqual([asked(house=house) for asked in ASKED], [True, 2, (2, 5), None])


if __name__ == "__main__":
    unittest.main()
