"""[13]: price_of, least_price."""

import unittest
from itertools import product

from tests import plain
from tests.refusing import RefusingTest
from tests.strangers import NOT_SAME, UNLIKE, refuses_strangers
from turnedvalleys.errors import BadPrices, BadRun, TooMany
from turnedvalleys.prices import least_price, price_of
from turnedvalleys.rows import Row

C = Row((7, 4, 5, 1, 2, 3, 9, 6, 8))
MOST = 10 ** 9


def plain_price(row, run, prices):
    """What a run costs, turn by turn."""
    total = 0
    for x in run:
        length = len(plain.lot(row, x))
        total += prices[length - 2] if length - 2 < len(prices) else prices[-1]
    return total


class TestPrices(RefusingTest):
    def test_example(self):
        row = plain.example()
        self.assertEqual(least_price(row, C, (1, 4)), 5)
        self.assertEqual(price_of(row, (2, 5), (1, 4)), 5)
        self.assertEqual(price_of(row, (2, 5, 3, 3), (1, 4)), 13)

    def test_a_long_lot_costs_the_last_price(self):
        row = plain.example()
        for prices, said in (((7,), (7, 7, 7)), ((1, 2), (1, 2, 2)), ((1, 2, 3), (1, 2, 3)), ((1, 2, 3, 4), (1, 2, 4)),
                             ((1, 2, 3, 4, 5), (1, 2, 4))):
            self.assertEqual(tuple(price_of(row, (x,), prices) for x in (2, 3, 5)), said)

    def test_small_rows_turn_by_turn(self):
        for row in plain.rows(4, (None, (2, 4))):
            for prices in ((0,), (5, 1), (1, 10, 100), (1, 10, 100, 1000)):
                for run in product(plain.free_heads(row), repeat=2):
                    self.same_kind(price_of(row, run, prices), plain_price(row, run, prices))
                self.same_kind(price_of(row, (), prices), 0)

    def test_least_price_against_a_search(self):
        for row in plain.rows(4, (None, (2, 4))):
            for prices in ((3, 0), (1, 10, 100)):
                for stones in plain.distances(row):
                    two = Row(stones, ends=row.ends, rule=row.rule)
                    self.same_kind(least_price(row, two, prices), self.cheapest(row, stones, prices))

    def cheapest(self, row, goal, prices):
        """The least price of all runs with each head at most twice, by trying all."""
        free = plain.free_heads(row)
        found = []
        for many in product((0, 1, 2), repeat=len(free)):
            run = tuple(x for x, times in zip(free, many) for _ in range(times))
            if plain.walked(row, run) == goal:
                found.append(plain_price(row, run, prices))
        return min(found)

    def test_limits_of_prices(self):
        row = plain.example()
        self.assertEqual(price_of(row, (2,), (MOST,) * 39), MOST)
        self.assertEqual(least_price(row, C, (0,)), 0)
        self.assertEqual(least_price(row, C, (MOST,) * 39), 2 * MOST)
        for prices in ((), (1,) * 40, (-1,) * 41):
            self.refused(BadPrices, len(prices), price_of, row, (2,), prices)
            self.refused(BadPrices, len(prices), least_price, row, C, prices)
        for prices, i in (((-1,), 0), ((MOST + 1,), 0), ((0, MOST + 1, -1), 1), ((1,) * 38 + (-1,), 38),
                          ((10 ** 30, 0), 0)):
            self.refused(BadPrices, i, price_of, row, (2,), prices)
            self.refused(BadPrices, i, least_price, row, C, prices)

    def test_lots_of_forty_stones(self):
        row = Row(tuple(range(40)), ends=3)
        prices = tuple(range(39))
        self.assertEqual([price_of(row, (x,), prices) for x in (1, 2, 39)], [0, 1, 38])
        self.assertEqual(price_of(row, (39,), prices[:38]), 37)
        self.assertEqual(price_of(row, (39, 1) * 5000, prices), 38 * 5000)

    def test_order_of_errors(self):
        row = plain.example()
        self.refused(TooMany, 10001, price_of, row, (1,) * 10001, ())
        self.refused(TooMany, 10001, price_of, row, (2,) * 10001, (-1,))
        self.refused(BadPrices, 0, price_of, row, (1,), ())
        self.refused(BadPrices, 1, price_of, row, (2, 1), (5, -1))
        self.refused(BadRun, 1, price_of, row, (2, 1), (5,))
        self.refused(BadRun, 9999, price_of, row, (2,) * 9999 + (4,), (5,))
        for _, one, two in UNLIKE:
            self.refused(BadPrices, 0, least_price, one, two, ())
            self.refused(BadPrices, 1, least_price, one, two, (0, -1))
        for one, two in NOT_SAME:
            self.refused(BadPrices, 40, least_price, one, two, (1,) * 40)

    def test_rows_of_other_classes(self):
        refuses_strangers(self, least_price, (1, 2))

    def test_names_of_arguments(self):
        self.assertEqual(price_of(prices=(3,), run=(2,), row=plain.example()), 3)
        self.assertEqual(least_price(prices=(3,), two=C, one=plain.example()), 6)


if __name__ == "__main__":
    unittest.main()
