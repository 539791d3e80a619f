"""[39]: the class Ring, ring_stretches, ring_row, ring_turned, ring_walked."""

import unittest
from itertools import product

from tests import plain, ringplain
from tests.refusing import RefusingTest
from turnedvalleys.errors import BadRule, BadRun, BadSize, BadStone, BadTurn, TooMany
from turnedvalleys.rings import Ring, ring_row, ring_stretches, ring_turned, ring_walked
from turnedvalleys.rows import Row

GREAT = 10 ** 15
EVERY = tuple(range(2, 41))
LONG = Ring(tuple(range(20, 40)) + tuple(range(20)))


def row_round(ring):
    """The stones behind the greatest one, by a walk round the ring."""
    n = len(ring.stones)
    at = ring.stones.index(max(ring.stones))
    return tuple(ring.stones[(at + k) % n] for k in range(1, n))


class TestRing(RefusingTest):
    def test_fields(self):
        self.assertEqual(ringplain.whole(Ring((3, -1, 2))), ((3, -1, 2), None))
        self.assertEqual(ringplain.whole(Ring(rule=(2, 5), stones=(0, 1))), ((0, 1), (2, 5)))
        self.assertEqual(ringplain.whole(Ring((0, 1), rule=())), ((0, 1), ()))
        with self.assertRaises(TypeError):
            Ring((1, 2), None)

    def test_how_many_stones(self):
        for n in (0, 1, 41, 1000):
            self.refused(BadSize, n, Ring, (5,) * n)
        for n in range(2, 41):
            self.assertEqual(Ring(tuple(range(n))).stones, tuple(range(n)))

    def test_stones(self):
        self.assertEqual(Ring((GREAT - 1, 1 - GREAT)).stones, (GREAT - 1, 1 - GREAT))
        for x in (GREAT, -GREAT, 10 ** 30, -10 ** 30):
            self.refused(BadStone, 0, Ring, (x, 1))
            self.refused(BadStone, 2, Ring, (1, 2, x, 2, x))
        self.refused(BadStone, 1, Ring, (4, 4))
        self.refused(BadStone, 3, Ring, (1, 2, 3, 1, GREAT))
        self.refused(BadStone, 39, Ring, tuple(range(39)) + (0,))

    def test_rules(self):
        for rule in (None, (), (2,), (40,), EVERY):
            self.assertEqual(Ring((1, 2), rule=rule).rule, rule)
        for rule, i in (((1,), 0), ((41,), 0), ((-2, 3), 0), ((2, 2), 1), ((5, 4), 1), ((2, 40, 41), 2), ((2, 3, 1), 2)):
            self.refused(BadRule, i, Ring, (1, 2), rule=rule)

    def test_which_comes_first(self):
        self.refused(BadSize, 1, Ring, (GREAT,), rule=(1,))
        self.refused(BadSize, 41, Ring, (1,) * 41, rule=(1,))
        self.refused(BadStone, 1, Ring, (1, 1), rule=(1,))

    def test_not_compared(self):
        self.assertFalse(Ring((1, 2)) == Ring((1, 2)))


class TestStretches(RefusingTest):
    def test_small_rings_by_a_walk_round(self):
        for ring in ringplain.rings(5, (None, (), (2,), (3,), (2, 4))):
            self.same_kind(ring_stretches(ring), ringplain.stretches(ring))

    def test_round_the_end_and_all_but_one(self):
        self.same_kind(ring_stretches(Ring((1, 9, 2))), ((2, 2),))
        self.same_kind(ring_stretches(Ring((9, 1, 2))), ((1, 2),))
        self.same_kind(ring_stretches(Ring((1, 5, 9, 3, 2))), ((3, 3), (3, 4), (4, 2)))
        self.same_kind(ring_stretches(Ring((1, 5, 9, 3, 2), rule=(3,))), ((3, 3),))
        self.same_kind(ring_stretches(Ring((1, 2))), ())

    def test_forty_stones(self):
        for rule in (None, (2, 39), EVERY, ()):
            ring = Ring(LONG.stones, rule=rule)
            self.same_kind(ring_stretches(ring), ringplain.stretches(ring))

    def test_names_of_arguments(self):
        self.assertEqual(ring_stretches(ring=Ring((9, 1, 2))), ((1, 2),))


class TestRow(RefusingTest):
    def test_small_rings(self):
        for ring in ringplain.rings(5, (None, (2, 3))):
            found = ring_row(ring)
            self.assertIsInstance(found, Row)
            self.assertEqual(plain.whole(found), (row_round(ring), 3, ring.rule))

    def test_its_stretches_are_those_of_the_ring(self):
        for ring in ringplain.rings(5, (None, (2,), (2, 4))):
            n = len(ring.stones)
            at = ring.stones.index(n - 1)
            said = sorted(((at + 1 + i) % n, j - i + 1) for i, j in plain.stretches(ring_row(ring)))
            self.assertEqual(ring_stretches(ring), tuple(said))

    def test_forty_stones(self):
        self.assertEqual(plain.whole(ring_row(LONG)), (tuple(range(39)), 3, None))
        self.assertEqual(ring_row(ring=LONG).stones, tuple(range(39)))


class TestTurned(RefusingTest):
    def test_small_rings(self):
        for ring in ringplain.rings(5, (None, (2,), (3, 4))):
            was = ringplain.whole(ring)
            for x in range(-1, len(ring.stones) + 1):
                at = ringplain.stretch_of(ring, x)
                if at is None:
                    self.refused(BadTurn, x, ring_turned, ring, x)
                else:
                    found = ring_turned(ring, x)
                    self.assertIsInstance(found, Ring)
                    self.assertEqual(ringplain.whole(found), ringplain.whole(ringplain.turned(ring, *at)))
                    self.assertEqual(ringplain.whole(ring_turned(found, x)), was)
                self.assertEqual(ringplain.whole(ring), was)

    def test_numbers_that_are_no_free_heads(self):
        ring = Ring((1, 5, 9, 3, 2), rule=(3,))
        for x in (1, 2, 3, 9, 0, -5, 10, 10 ** 30, -10 ** 30):
            if x != 3:
                self.refused(BadTurn, x, ring_turned, ring, x)
        self.refused(BadTurn, 2, ring_turned, Ring((1, 2)), 2)

    def test_names_of_arguments(self):
        self.assertEqual(ring_turned(x=2, ring=Ring((9, 1, 2))).stones, (9, 2, 1))


class TestWalked(RefusingTest):
    def test_small_rings_turn_by_turn(self):
        for ring in ringplain.rings(4, (None, (2,), (3,))):
            for run in product(range(-1, 4), repeat=2):
                here = ring
                for k, x in enumerate(run):
                    at = ringplain.stretch_of(here, x)
                    if at is None:
                        self.refused(BadRun, k, ring_walked, ring, run)
                        break
                    here = ringplain.turned(here, *at)
                else:
                    found = ring_walked(ring, run)
                    self.assertIsInstance(found, Ring)
                    self.assertEqual(ringplain.whole(found), ringplain.whole(here))
                    self.assertEqual(found.stones.index(max(found.stones)), ring.stones.index(max(ring.stones)))

    def test_no_turns(self):
        for ring in (LONG, Ring((2, 1), rule=())):
            self.assertEqual(ringplain.whole(ring_walked(ring, ())), ringplain.whole(ring))

    def test_how_many_turns(self):
        run = (38, 17) * 4999 + (3, 38)
        short = LONG
        for x in (17, 3):
            short = ringplain.turned(short, *ringplain.stretch_of(short, x))
        self.assertEqual(ringplain.whole(ring_walked(LONG, run)), ringplain.whole(short))
        for many in (10001, 20000):
            for x in (38, 39, 0):
                self.refused(TooMany, many, ring_walked, LONG, (x,) * many)

    def test_the_first_bad_number(self):
        for x in (39, 0, 40, -1, 10 ** 30):
            for k in (0, 1, 5, 9999):
                self.refused(BadRun, k, ring_walked, LONG, (38,) * k + (x,))
            self.refused(BadRun, 2, ring_walked, LONG, (38, 1, x, 2, x))
        self.refused(BadRun, 1, ring_walked, Ring(LONG.stones, rule=(2, 39)), (38, 37))

    def test_names_of_arguments(self):
        self.assertEqual(ring_walked(run=(2, 2), ring=Ring((9, 1, 2))).stones, (9, 1, 2))


if __name__ == "__main__":
    unittest.main()
