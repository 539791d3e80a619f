"""[39]: opened."""

import unittest
from itertools import permutations

from tests import plain, ringplain
from tests.refusing import RefusingTest
from turnedvalleys.errors import BadPlace
from turnedvalleys.fewest import fewest
from turnedvalleys.kin import same
from turnedvalleys.opening import opened
from turnedvalleys.ringkin import ring_fewest, ring_same
from turnedvalleys.rings import Ring
from turnedvalleys.rows import Row


class TestOpened(RefusingTest):
    def test_each_place_of_small_rings(self):
        for ring in ringplain.rings(4, (None, (), (2, 3))):
            n = len(ring.stones)
            for place in range(n):
                found = opened(ring, place)
                self.assertIsInstance(found, Row)
                stones = tuple(ring.stones[(place + k) % n] for k in range(n))
                self.assertEqual(plain.whole(found), (stones, 0, ring.rule))

    def test_places_that_are_none(self):
        for ring in ringplain.rings(3):
            n = len(ring.stones)
            for place in (-1, n, -n, n + 1, 10 ** 30, -10 ** 30):
                self.refused(BadPlace, place, opened, ring, place)

    def test_forty_stones(self):
        ring = Ring(tuple(range(40)), rule=(2, 40))
        self.assertEqual(plain.whole(opened(ring, 39)), ((39,) + tuple(range(39)), 0, (2, 40)))
        self.refused(BadPlace, 40, opened, ring, 40)

    def test_rings_whose_opened_rows_are_same(self):
        for n in (3, 4):
            orders = list(permutations(range(n)))
            for rule in (None, (2,), (3,)):
                for stones in orders:
                    for other in orders:
                        self.check_pair(Ring(stones, rule=rule), Ring(other, rule=rule))

    def check_pair(self, one, two):
        for place in range(len(one.stones)):
            rows = (opened(one, place), opened(two, place))
            if same(*rows):
                self.assertIs(ring_same(one, two), True)
                self.assertEqual(ring_fewest(one, two), fewest(*rows))

    def test_names_of_arguments(self):
        self.assertEqual(opened(place=1, ring=Ring((1, 2, 3))).stones, (2, 3, 1))


if __name__ == "__main__":
    unittest.main()
