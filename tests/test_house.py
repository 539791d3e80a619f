"""[41]: the house and its deeds."""

import unittest
from random import Random

from tests import plain
from tests.refusing import RefusingTest
from turnedvalleys.errors import (
    BadPlace, BadRun, BadSize, BadStone, BadTurn, NothingToRedo, NothingToUndo, Refused, TooMany, Unlike,
)
from turnedvalleys.house import House
from turnedvalleys.rows import Row

GREAT = 10 ** 15
FORTY = tuple(range(40))
AIMED = (7, 4, 5, 1, 2, 3, 9, 6, 8)
# What is put, taken and aimed at around a turn and a run, for the row of the examples.
DEEDS = (("turn", 5), ("aim", AIMED), ("lay", (2, 5)), ("put", 0, 3), ("take", 9, 7), ("lay", ()), ("turn", 6))
METHODS = ("row", "goal", "deeds", "turn", "lay", "put", "take", "aim", "undo", "redo")


def do(house, deed):
    """Do a deed as deeds() tells it; it must return nothing."""
    name, told = deed[0], deed[1:]
    return getattr(house, name)(*told[:1] if name == "take" else told)


def seen(house):
    """All that a house shows."""
    goal = house.goal()
    return (plain.whole(house.row()), None if goal is None else plain.whole(goal), house.deeds())


def any_told(luck, house, name):
    """Any numbers for a deed, good ones and bad ones."""
    stones = list(house.row().stones)
    x, place = luck.randint(-1, 8), luck.randint(-1, len(stones) + 1)
    run = tuple(luck.choice(plain.free_heads(house.row()) * 3 + (0,)) for _ in range(luck.randint(0, 3)))
    luck.shuffle(stones)
    if luck.random() < 0.1:
        stones.append(x)
    return {"turn": (x,), "lay": (run,), "put": (x, place), "take": (x,), "aim": (tuple(stones),)}.get(name, ())


def said_after(house, name, told):
    """What the house must show after one of the five deeds; None if it must be refused, or for undo and redo."""
    row, goal, deeds = seen(house)
    stones, ends, rule = row
    free = plain.free_heads(house.row())
    deed = (name,) + told
    if name in ("turn", "lay"):
        run = told if name == "turn" else told[0]
        if not set(run) <= set(free):
            return None
        stones = plain.walked(house.row(), run)
    elif name == "put":
        x, place = told
        if x in stones or not 0 <= place <= len(stones):
            return None
        stones, goal = stones[:place] + (x,) + stones[place:], None
    elif name == "take":
        if told[0] not in stones or len(stones) == 1:
            return None
        deed += (stones.index(told[0]),)
        stones, goal = tuple(x for x in stones if x != told[0]), None
    elif name == "aim":
        if sorted(told[0]) != sorted(stones):
            return None
        goal = (told[0], ends, rule)
    else:
        return None
    return ((stones, ends, rule), goal, deeds + (deed,))


class HouseTest(RefusingTest):
    def refuses(self, house, error, what, name, *told):
        """The deed must be refused, and change nothing."""
        was = seen(house)
        self.refused(error, what, getattr(house, name), *told)
        self.assertEqual(seen(house), was)


class TestDeeds(HouseTest):
    def test_the_beginning(self):
        for row in (plain.example((2, 5)), Row((1,), ends=3)):
            house = House(row)
            self.assertIsInstance(house.row(), Row)
            self.assertEqual(plain.whole(house.row()), plain.whole(row))
            self.assertIsNone(house.goal())
            self.same_kind(house.deeds(), ())
            self.refuses(house, NothingToUndo, 0, "undo")
            self.refuses(house, NothingToRedo, 0, "redo")

    def test_methods_stand_in_the_class_itself(self):
        for name in METHODS:
            self.assertIn(name, vars(House))

    def test_turn(self):
        house = House(plain.example((2, 5)))
        self.assertIsNone(house.turn(5))
        self.assertEqual(seen(house), (((7, 4, 5, 2, 1, 3, 9, 6, 8), 0, (2, 5)), None, (("turn", 5),)))
        for x in (3, 1, 9, 0, 10, -1, 10 ** 30):
            self.refuses(house, BadTurn, x, "turn", x)

    def test_lay(self):
        house = House(plain.example())
        self.assertIsNone(house.lay((2, 5)))
        self.assertEqual(seen(house), ((AIMED, 0, None), None, (("lay", (2, 5)),)))
        self.assertIsNone(house.lay(()))
        self.assertEqual(seen(house), ((AIMED, 0, None), None, (("lay", (2, 5)), ("lay", ()))))
        for i in (0, 1, 5, 9999):
            for x in (1, 9, 0, 10 ** 30):
                self.refuses(house, BadRun, i, "lay", (2,) * i + (x,))
        self.refuses(house, BadRun, 1, "lay", (5, 6, 6))
        house.lay((2,) * 10000)
        self.assertEqual(house.row().stones, AIMED)
        for many in (10001, 12000):
            for x in (2, 1):
                self.refuses(house, TooMany, many, "lay", (x,) * many)

    def test_put_at_each_place(self):
        for row in (Row((3, 1, 2), ends=1, rule=(2,)), Row((5,), ends=3), plain.example()):
            n = len(row.stones)
            for x in (-4, 20, GREAT - 1, 1 - GREAT):
                for place in range(n + 1):
                    house = House(row)
                    house.aim(row.stones)
                    self.assertIsNone(house.put(x, place))
                    stones = row.stones[:place] + (x,) + row.stones[place:]
                    deeds = (("aim", row.stones), ("put", x, place))
                    self.assertEqual(seen(house), ((stones, row.ends, row.rule), None, deeds))
            for place in (-1, n + 1, -n, 10 ** 30, -10 ** 30):
                self.refuses(House(row), BadPlace, place, "put", 30, place)
            for x in row.stones + (GREAT, -GREAT, 10 ** 30):
                for place in (0, n, -1, n + 1):
                    self.refuses(House(row), BadStone, x, "put", x, place)

    def test_put_into_a_row_of_forty(self):
        house = House(Row(FORTY[:39], ends=2))
        house.put(-5, 20)
        for place in (0, 20, 40):
            self.refuses(house, TooMany, 41, "put", 50, place)
        self.refuses(house, BadPlace, 41, "put", 50, 41)
        self.refuses(house, BadPlace, -1, "put", 50, -1)
        self.refuses(house, BadStone, -5, "put", -5, 41)
        self.refuses(house, BadStone, GREAT, "put", GREAT, 41)
        house.take(-5)
        house.put(50, 39)
        self.assertEqual(plain.whole(house.row()), (FORTY[:39] + (50,), 2, None))

    def test_take(self):
        for row in (Row((3, 1, 2), ends=1, rule=(2,)), Row((5, 6), ends=3), plain.example()):
            for place, x in enumerate(row.stones):
                house = House(row)
                house.aim(row.stones)
                self.assertIsNone(house.take(x))
                stones = row.stones[:place] + row.stones[place + 1:]
                deeds = (("aim", row.stones), ("take", x, place))
                self.assertEqual(seen(house), ((stones, row.ends, row.rule), None, deeds))
                self.refuses(house, BadStone, x, "take", x)
            for x in (0, 10, -1, 10 ** 30):
                self.refuses(House(row), BadStone, x, "take", x)

    def test_take_of_the_only_stone(self):
        house = House(Row((5, 6)))
        house.take(6)
        self.refuses(house, BadSize, 0, "take", 5)
        self.refuses(house, BadStone, 6, "take", 6)

    def test_aim(self):
        for rule in (None, (2, 5), ()):
            for ends in plain.ENDS:
                house = House(Row(plain.EXAMPLE, ends=ends, rule=rule))
                for stones in (AIMED, plain.EXAMPLE, tuple(range(1, 10))):
                    self.assertIsNone(house.aim(stones))
                    self.assertIsInstance(house.goal(), Row)
                    self.assertEqual(plain.whole(house.goal()), (stones, ends, rule))
                    self.assertEqual(plain.whole(house.row()), (plain.EXAMPLE, ends, rule))
                    self.assertEqual(house.deeds()[-1], ("aim", stones))

    def test_aims_that_are_none(self):
        house = House(plain.example())
        house.aim(AIMED)
        self.refuses(house, BadSize, 0, "aim", ())
        self.refuses(house, BadSize, 41, "aim", (1,) * 41)
        self.refuses(house, BadStone, 9, "aim", AIMED + (7, GREAT))
        self.refuses(house, BadStone, 0, "aim", (GREAT, 1, 1))
        self.refuses(house, BadStone, 1, "aim", (1, 1))
        for stones in (AIMED[:8], AIMED + (10,), AIMED[:8] + (10,), (1,), tuple(range(9)), FORTY):
            self.refuses(house, Unlike, "stones", "aim", stones)

    def test_turn_and_lay_leave_the_goal(self):
        house = House(plain.example())
        house.aim(AIMED)
        house.turn(5)
        house.lay((2, 3))
        self.assertEqual(plain.whole(house.goal()), (AIMED, 0, None))

    def test_put_and_take_make_the_goal_none_and_undo_brings_it_back(self):
        for deed in (("put", 0, 3), ("take", 9)):
            house = House(plain.example())
            house.aim(AIMED)
            was = seen(house)
            do(house, deed)
            self.assertIsNone(house.goal())
            house.undo()
            self.assertEqual(seen(house), was)
            house.redo()
            self.assertIsNone(house.goal())

    def test_what_is_returned_does_not_change(self):
        row = plain.example()
        house = House(row)
        first, deeds = house.row(), house.deeds()
        for deed in DEEDS:
            do(house, deed)
        self.assertEqual(plain.whole(row), (plain.EXAMPLE, 0, None))
        self.assertEqual(plain.whole(first), (plain.EXAMPLE, 0, None))
        self.assertEqual(deeds, ())

    def test_two_houses_are_apart(self):
        one, two = House(plain.example()), House(plain.example())
        one.turn(5)
        self.assertEqual(two.deeds(), ())
        self.assertEqual(two.row().stones, plain.EXAMPLE)

    def test_names_of_arguments(self):
        house = House(row=plain.example())
        house.turn(x=5)
        house.lay(run=(2,))
        house.put(place=0, x=20)
        house.take(x=20)
        house.aim(stones=house.row().stones)
        self.assertEqual(house.deeds()[1:4], (("lay", (2,)), ("put", 20, 0), ("take", 20, 0)))


class TestUndo(HouseTest):
    def test_each_deed_done_undone_and_redone(self):
        house = House(plain.example())
        on_the_way = [seen(house)]
        for k, deed in enumerate(DEEDS):
            self.assertIsNone(do(house, deed))
            self.assertEqual(house.deeds(), DEEDS[:k + 1])
            on_the_way.append(seen(house))
        for _ in range(2):
            self.refuses(house, NothingToRedo, 0, "redo")
            for was in reversed(on_the_way[:-1]):
                self.assertIsNone(house.undo())
                self.assertEqual(seen(house), was)
            self.refuses(house, NothingToUndo, 0, "undo")
            for was in on_the_way[1:]:
                self.assertIsNone(house.redo())
                self.assertEqual(seen(house), was)

    def test_half_undone_and_then_another_deed(self):
        for many in range(1, len(DEEDS) + 1):
            house = House(plain.example())
            for deed in DEEDS:
                do(house, deed)
            for _ in range(many):
                house.undo()
            was = seen(house)
            self.assertEqual(was[2], DEEDS[:len(DEEDS) - many])
            house.put(-1, 0)
            said = (((-1,) + was[0][0], 0, None), None, was[2] + (("put", -1, 0),))
            self.assertEqual(seen(house), said)
            self.refuses(house, NothingToRedo, 0, "redo")
            house.undo()
            self.assertEqual(seen(house), was)
            house.redo()
            self.assertEqual(seen(house), said)
            self.refuses(house, NothingToRedo, 0, "redo")

    def test_a_refused_deed_leaves_what_may_be_redone(self):
        for error, what, name, told in ((BadTurn, 7, "turn", (7,)), (BadRun, 1, "lay", ((2, 7),)),
                                        (BadStone, 7, "put", (7, 0)), (BadPlace, 10, "put", (0, 10)),
                                        (BadStone, 0, "take", (0,)), (BadSize, 0, "aim", ((),)),
                                        (Unlike, "stones", "aim", ((1, 2),)), (TooMany, 10001, "lay", ((2,) * 10001,))):
            house = House(plain.example())
            house.turn(5)
            house.turn(2)
            house.undo()
            self.refuses(house, error, what, name, *told)
            house.redo()
            self.assertEqual(house.deeds(), (("turn", 5), ("turn", 2)))
            self.assertEqual(house.row().stones, (7, 4, 5, 1, 2, 3, 9, 6, 8))

    def test_undo_and_redo_at_their_ends_leave_each_other(self):
        house = House(plain.example())
        house.turn(5)
        self.refuses(house, NothingToRedo, 0, "redo")
        house.undo()
        self.refuses(house, NothingToUndo, 0, "undo")
        house.redo()
        self.assertEqual(house.deeds(), (("turn", 5),))

    def test_many_deeds_beside_a_plain_house(self):
        for seed in range(60):
            self.check_deeds(Random(seed))

    def check_deeds(self, luck):
        rule = luck.choice((None, (2, 3, 5), (2,)))
        house = House(Row(tuple(luck.sample(range(8), luck.randint(1, 6))), ends=luck.randint(0, 3), rule=rule))
        # What a house shows after each deed that stands, and after those that were undone, the last undone last.
        stood, undone = [seen(house)], []
        for _ in range(60):
            name = luck.choice(METHODS[3:] + ("turn", "undo", "undo", "redo"))
            told = any_told(luck, house, name)
            said = said_after(house, name, told)
            try:
                getattr(house, name)(*told)
            except Refused:
                self.assertTrue(said is None and (name != "undo" or len(stood) == 1) and (name != "redo" or not undone))
            else:
                if name == "undo":
                    undone.append(stood.pop())
                elif name == "redo":
                    stood.append(undone.pop())
                else:
                    stood.append(said)
                    undone = []
            self.assertEqual(seen(house), stood[-1])


class TestTwoHundred(HouseTest):
    def full(self, row):
        house = House(row)
        for k in range(100):
            house.lay(())
            house.aim(row.stones)
        return house

    def test_two_hundred_deeds_and_one_more(self):
        house = self.full(plain.example())
        self.assertEqual(len(house.deeds()), 200)
        for name, told in (("turn", (5,)), ("lay", ((2,),)), ("lay", ((),)), ("put", (0, 0)), ("take", (9,)),
                           ("aim", (AIMED,))):
            self.refuses(house, TooMany, 201, name, *told)
        house.undo()
        house.turn(5)
        self.assertEqual(len(house.deeds()), 200)
        self.refuses(house, TooMany, 201, "turn", 5)
        for _ in range(200):
            house.undo()
        self.refuses(house, NothingToUndo, 0, "undo")
        for _ in range(200):
            house.redo()
        self.refuses(house, NothingToRedo, 0, "redo")
        self.assertEqual(house.deeds()[-1], ("turn", 5))
        self.refuses(house, TooMany, 201, "lay", ())

    def test_other_errors_come_first(self):
        house = self.full(plain.example())
        self.refuses(house, BadTurn, 9, "turn", 9)
        self.refuses(house, TooMany, 10001, "lay", (2,) * 10001)
        self.refuses(house, BadRun, 1, "lay", (2, 9))
        self.refuses(house, BadStone, 9, "put", 9, 10)
        self.refuses(house, BadPlace, 10, "put", 0, 10)
        self.refuses(house, BadStone, 0, "take", 0)
        self.refuses(house, BadSize, 0, "aim", ())
        self.refuses(house, BadStone, 1, "aim", (1, 1))
        self.refuses(house, Unlike, "stones", "aim", (1, 2))
        self.refuses(self.full(Row((5,))), BadSize, 0, "take", 5)
        self.refuses(self.full(Row(FORTY)), TooMany, 41, "put", 50, 0)


if __name__ == "__main__":
    unittest.main()
