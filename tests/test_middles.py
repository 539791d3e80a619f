"""[15]: between, middle, meetings and hulls; [0.2]: several rows of one class."""

import unittest
from itertools import combinations, permutations, product

from tests import plain
from tests.refusing import RefusingTest
from tests.strangers import NOT_SAME, UNLIKE, refuses_strangers_among
from turnedvalleys.errors import BadRows, BadWeights, NotSame
from turnedvalleys.middles import between, hull_size, in_hull, meeting_many, meeting_row, meeting_sum, middle
from turnedvalleys.rows import Row
from turnedvalleys.runs import walked

A = plain.example()
B = Row((7, 4, 5, 2, 1, 3, 9, 6, 8))
C = Row((7, 4, 5, 1, 2, 3, 9, 6, 8))
LONG = Row(tuple(range(40)), ends=3)
MOST = 10 ** 6
MEETINGS = (meeting_sum, meeting_row, meeting_many)


def far_apart(rows):
    """The fewest turns between each two rows of a class, by their stones."""
    return {(row.stones, other): many for row in rows for other, many in plain.distances(row).items()}


class TestMiddles(RefusingTest):
    def test_example(self):
        self.assertEqual(plain.whole(middle(A, B, C)), plain.whole(B))
        self.assertIs(between(A, B, C), True)
        self.assertIs(between(A, C, B), False)
        self.assertIs(between(B, A, C), False)

    def test_small_classes_against_a_search(self):
        for rows in plain.classes(4, (None, (2,), (2, 4), ())):
            far = far_apart(rows)
            for one, two, three in product(rows, repeat=3):
                a, b, c = one.stones, two.stones, three.stones
                self.same_kind(between(one, two, three), far[a, b] + far[b, c] == far[a, c])
                found = [m.stones for m in rows if all(far[x, m.stones] + far[m.stones, y] == far[x, y]
                                                       for x, y in ((a, b), (b, c), (a, c)))]
                two_of_three = middle(one, two, three)
                self.assertEqual([two_of_three.stones], found)
                self.assertEqual((two_of_three.ends, two_of_three.rule), (one.ends, one.rule))

    def test_in_every_order_and_with_alike_rows(self):
        rows = plain.class_of(Row((3, 0, 1, 2, 4), ends=3))
        for one, two, three in product(rows[::3], repeat=3):
            said = middle(one, two, three).stones
            for order in permutations((one, two, three)):
                self.assertEqual(middle(*order).stones, said)
        for one, two in product(rows[::2], repeat=2):
            for order in ((one, one, two), (one, two, one), (two, one, one)):
                self.assertEqual(middle(*order).stones, one.stones)
            self.assertIs(between(one, one, two), True)
            self.assertIs(between(one, two, two), True)
            self.assertIs(between(one, two, one), one.stones == two.stones)

    def test_forty_stones(self):
        rows = [walked(LONG, run) for run in (tuple(range(1, 20)), tuple(range(10, 30)), tuple(range(15, 40)))]
        self.assertEqual(middle(*rows).stones, plain.walked(LONG, tuple(range(10, 30))))
        self.assertIs(between(LONG, walked(LONG, (3, 39)), walked(LONG, (3, 20, 39))), True)
        self.assertIs(between(LONG, walked(LONG, (3, 39)), walked(LONG, (3, 20))), False)

    def test_rows_of_other_classes(self):
        refuses_strangers_among(self, lambda rows: between(*rows), 3)
        refuses_strangers_among(self, lambda rows: middle(*rows), 3)

    def test_names_of_arguments(self):
        self.assertIs(between(two=C, mid=B, one=A), True)
        self.assertEqual(middle(three=C, two=B, one=A).stones, B.stones)

    def test_nothing_is_changed(self):
        rows = [plain.example(), Row(B.stones), Row(C.stones)]
        was = [plain.whole(row) for row in rows]
        middle(*rows)
        meeting_row(tuple(rows), (1, 2, 3))
        self.assertEqual([plain.whole(row) for row in rows], was)


class TestMeetings(RefusingTest):
    def test_example(self):
        for weights, least, many, stones in (((1, 1, 1), 2, 1, B.stones), ((2, 1, 1), 3, 2, A.stones)):
            self.assertEqual(meeting_sum((A, B, C), weights), least)
            self.assertEqual(meeting_many((A, B, C), weights), many)
            self.assertEqual(plain.whole(meeting_row((A, B, C), weights)), (stones, 0, None))

    def test_small_classes_against_a_search(self):
        for rows in plain.classes(4, (None, (2,), (2, 4))):
            far = far_apart(rows)
            for weights in ((1,), (1, 1), (2, 1), (1, 1, 1), (2, 1, 1), (1, 3, 2), (3, 1, 5), (MOST, 1, MOST - 1)):
                for met in list(product(rows, repeat=len(weights)))[::5]:
                    self.check_meeting(rows, far, met, weights)

    def check_meeting(self, rows, far, met, weights):
        sums = {m.stones: sum(weight * far[row.stones, m.stones] for row, weight in zip(met, weights)) for m in rows}
        least = min(sums.values())
        self.same_kind(meeting_sum(met, weights), least)
        self.same_kind(meeting_many(met, weights), list(sums.values()).count(least))
        row = meeting_row(met, weights)
        self.assertEqual(sums[row.stones], least)
        self.assertEqual((row.ends, row.rule), (rows[0].ends, rows[0].rule))
        for x in plain.free_heads(row):
            ones = sum(weight for one, weight in zip(met, weights) if plain.sense(one, x) == 1)
            if 2 * ones == sum(weights):
                self.assertEqual(plain.sense(row, x), 0)

    def test_one_row(self):
        for weight in (1, 7, MOST):
            self.assertEqual(meeting_sum((A,), (weight,)), 0)
            self.assertEqual(meeting_row((A,), (weight,)).stones, A.stones)
            self.assertEqual(meeting_many((A,), (weight,)), 1)

    def test_alike_rows(self):
        self.assertEqual(meeting_sum((A, A, C, A), (1, 1, 4, 1)), 6)
        self.assertEqual(meeting_row((A, A, C, A), (1, 1, 4, 1)).stones, C.stones)
        self.assertEqual(meeting_many((A, A, C, A), (1, 1, 4, 2)), 4)
        self.assertEqual(meeting_row((A, A, C, A), (1, 1, 4, 3)).stones, A.stones)

    def test_two_senses_of_like_weight(self):
        one, two = Row((2, 1), ends=3), Row((1, 2), ends=3)
        for rows in ((one, two), (two, one)):
            for weight in (1, 5, MOST):
                self.assertEqual(meeting_row(rows, (weight, weight)).stones, (1, 2))
                self.assertEqual(meeting_many(rows, (weight, weight)), 2)
                self.assertEqual(meeting_sum(rows, (weight, weight)), weight)
        self.assertEqual(meeting_row((one, two), (2, 1)).stones, (2, 1))
        self.assertEqual(meeting_many((one, two), (2, 1)), 1)

    def test_a_hundred_rows(self):
        far = walked(LONG, tuple(range(1, 40)))
        rows, weights = (LONG, far) * 50, (1, 2) * 49 + (MOST, MOST)
        self.assertEqual(meeting_sum(rows, weights), 39 * (49 + MOST))
        self.assertEqual(meeting_row(rows, weights).stones, far.stones)
        self.assertEqual(meeting_many(rows, weights), 1)
        self.assertEqual(meeting_many(rows, (3,) * 100), 2 ** 39)
        self.assertEqual(meeting_row(rows, (3,) * 100).stones, LONG.stones)
        self.assertEqual(meeting_sum(rows, (3,) * 100), 39 * 150)

    def test_how_many_rows(self):
        for many in (0, 101, 150):
            for ask in MEETINGS:
                self.refused(BadRows, many, ask, (A,) * many, (1,) * many)
                self.refused(BadRows, many, ask, (A,) * many, ())
                self.refused(BadRows, many, ask, (A,) * many, (0,))
        self.refused(BadRows, 101, meeting_sum, (A, Row((1,))) * 50 + (A,), (0,) * 101)

    def test_weights(self):
        for ask in MEETINGS:
            for weights in ((), (1,), (0,), (1, 1, 1, 1), (0, 0, 0, 0), (1,) * 100):
                self.refused(BadWeights, len(weights), ask, (A, B, C), weights)
            for bad in (0, -1, MOST + 1, 10 ** 30, -10 ** 30):
                for i in range(3):
                    weights = (1, MOST, 3)[:i] + (bad,) + (bad, 0, -5)[:2 - i]
                    self.refused(BadWeights, i, ask, (A, B, C), weights)
            self.refused(BadWeights, 99, ask, (A,) * 100, (MOST,) * 99 + (MOST + 1,))

    def test_weights_ahead_of_rows_of_other_classes(self):
        for one, two in [pair[-2:] for pair in UNLIKE + NOT_SAME]:
            for ask in MEETINGS:
                self.refused(BadWeights, 1, ask, (one, two), (1,))
                self.refused(BadWeights, 1, ask, (one, two), (1, 0))

    def test_rows_of_other_classes(self):
        for ask in MEETINGS:
            for many in (2, 3, 4):
                refuses_strangers_among(self, lambda rows: ask(rows, (1,) * many), many)
        held, turned = NOT_SAME[2]
        self.refused(NotSame, 99, meeting_sum, (held,) * 99 + (turned,), (1,) * 100)

    def test_names_of_arguments(self):
        self.assertEqual([ask(weights=(1, 1), rows=(A, A)) for ask in (meeting_sum, meeting_many)], [0, 1])
        self.assertEqual(meeting_row(weights=(1, 1), rows=(A, A)).stones, A.stones)


class TestHulls(RefusingTest):
    def test_example(self):
        self.assertEqual(hull_size((A, C)), 4)
        self.assertIs(in_hull((A, C), B), True)
        self.assertIs(in_hull((A, B), C), False)

    def test_small_classes_against_closing(self):
        for rows in plain.classes(4, (None, (2, 4))):
            far = far_apart(rows)
            for many in (1, 2, 3):
                for some in list(combinations(rows, many))[::2]:
                    found = self.closed(rows, far, {row.stones for row in some})
                    self.same_kind(hull_size(some), len(found))
                    for row in rows:
                        self.same_kind(in_hull(some, row), row.stones in found)

    def closed(self, rows, far, found):
        """The rows of found with all rows between two of them, again and again."""
        size = 0
        while size < len(found):
            size = len(found)
            found = {m.stones for m in rows if any(far[x, m.stones] + far[m.stones, y] == far[x, y]
                                                   for x in found for y in found)}
        return found

    def test_one_row(self):
        self.assertEqual(hull_size((A,)), 1)
        self.assertEqual(hull_size((A,) * 100), 1)
        self.assertIs(in_hull((A,), A), True)
        self.assertIs(in_hull((A,), B), False)
        self.assertIs(in_hull((A,) * 99 + (C,), B), True)

    def test_forty_stones(self):
        rows = tuple(walked(LONG, (x,)) for x in range(1, 39))
        self.assertEqual(hull_size(rows), 2 ** 38)
        self.assertIs(in_hull(rows, walked(LONG, tuple(range(2, 39, 2)))), True)
        self.assertIs(in_hull(rows, walked(LONG, (5, 39))), False)
        self.assertEqual(hull_size(rows + (walked(LONG, (39,)),)), 2 ** 39)

    def test_how_many_rows(self):
        for many in (0, 101, 130):
            self.refused(BadRows, many, hull_size, (A,) * many)
            self.refused(BadRows, many, in_hull, (A,) * many, B)
            self.refused(BadRows, many, in_hull, (A,) * many, Row((1,)))

    def test_rows_of_other_classes(self):
        for many in (2, 3, 4):
            refuses_strangers_among(self, hull_size, many)
            refuses_strangers_among(self, lambda rows: in_hull(rows[:-1], rows[-1]), many)
        held, turned = NOT_SAME[2]
        self.refused(NotSame, 100, in_hull, (held,) * 100, turned)

    def test_names_of_arguments(self):
        self.assertEqual(hull_size(rows=(A, B)), 2)
        self.assertIs(in_hull(row=B, rows=(A, C)), True)


if __name__ == "__main__":
    unittest.main()
