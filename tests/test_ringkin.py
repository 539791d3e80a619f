"""[39]: ring_same, ring_fewest, ring_count."""

import unittest
from itertools import permutations

from tests import ringplain
from tests.counting import BAD_RULES, EVERY, counted
from tests.refusing import RefusingTest
from turnedvalleys.errors import BadRule, BadSize, NotSame, Unlike
from turnedvalleys.ringkin import ring_count, ring_fewest, ring_same
from turnedvalleys.rings import Ring

RULES = (None, (), (2,), (3,), (2, 4), (2, 3, 4))
UNLIKE = (
    ("rule", Ring((1, 2)), Ring((1, 2), rule=())),
    ("rule", Ring((1, 2), rule=EVERY), Ring((1, 2))),
    ("rule", Ring((1, 2), rule=(2,)), Ring((1, 3), rule=(2, 3))),
    ("stones", Ring((1, 2)), Ring((1, 3))),
    ("stones", Ring((1, 2, 3), rule=(2,)), Ring((1, 2), rule=(2,))),
)


class TestSame(RefusingTest):
    def test_small_rings_by_a_plain_search(self):
        for n in (2, 3, 4):
            for rule in RULES:
                for stones in permutations(range(n)):
                    self.check_ring(Ring(stones, rule=rule), permutations(range(n)))

    def test_some_larger_rings(self):
        orders = list(permutations(range(5)))
        for rule in (None, (2,), (2, 4)):
            for stones in orders[::9]:
                self.check_ring(Ring(stones, rule=rule), orders)

    def check_ring(self, one, orders):
        kin = ringplain.distances(one)
        for other in orders:
            two = ringplain.like(one, other)
            self.same_kind(ring_same(one, two), other in kin)
            if other in kin:
                self.same_kind(ring_fewest(one, two), kin[other])
            else:
                self.refused(NotSame, 1, ring_fewest, one, two)

    def test_the_greatest_stone_at_another_place(self):
        for stones in ((1, 2, 9, 3), (9, 3, 1, 2), (2, 9, 3, 1)):
            self.assertIs(ring_same(Ring((3, 1, 2, 9)), Ring(stones)), False)
            self.refused(NotSame, 1, ring_fewest, Ring((3, 1, 2, 9)), Ring(stones))
        self.assertIs(ring_same(Ring((3, 1, 2, 9)), Ring((2, 1, 3, 9))), True)
        self.assertEqual(ring_fewest(Ring((3, 1, 2, 9)), Ring((2, 1, 3, 9))), 1)

    def test_unlike(self):
        for word, one, two in UNLIKE:
            for asked in (ring_same, ring_fewest):
                self.refused(Unlike, word, asked, one, two)
                self.refused(Unlike, word, asked, two, one)

    def test_forty_stones(self):
        one, two = Ring(tuple(range(40))), Ring(tuple(range(38, -1, -1)) + (39,))
        self.assertIs(ring_same(one, two), True)
        self.assertEqual(ring_fewest(one, two), 1)

    def test_names_of_arguments(self):
        one, two = Ring((1, 2, 3)), Ring((2, 1, 3))
        self.assertIs(ring_same(two=two, one=one), True)
        self.assertEqual(ring_fewest(two=two, one=one), 1)


class TestCount(RefusingTest):
    def test_examples(self):
        self.assertEqual([ring_count(n) for n in range(2, 8)], [2, 3, 8, 25, 96, 427])

    def test_small_rings_by_a_plain_count(self):
        for n in (2, 3, 4, 5):
            for rule in RULES + (EVERY,):
                self.same_kind(ring_count(n, rule=rule), len(list(ringplain.classes(n, rule))))

    def test_all_sizes(self):
        for n in (2, 3, 20, 40, 41, 42, 59, 60):
            for rule in (None, (), (2, 5), EVERY):
                self.same_kind(ring_count(n, rule=rule), n * counted(n - 1, 3, rule))

    def test_bad_sizes(self):
        for n in (1, 0, -1, 61, 100, 10 ** 30, -10 ** 30):
            self.refused(BadSize, n, ring_count, n)
            self.refused(BadSize, n, ring_count, n, rule=(1,))

    def test_bad_rules(self):
        for rule, i in BAD_RULES:
            for n in (2, 5, 60):
                self.refused(BadRule, i, ring_count, n, rule=rule)

    def test_names_of_arguments(self):
        self.assertEqual(ring_count(rule=(), n=3), 6)
        with self.assertRaises(TypeError):
            ring_count(3, ())


if __name__ == "__main__":
    unittest.main()
