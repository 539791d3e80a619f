"""[9]: shape, shape_right."""

import unittest
from itertools import permutations, product

from tests import plain
from tests.refusing import RefusingTest
from tests.values import ANY
from turnedvalleys.errors import BadEnds
from turnedvalleys.rows import Row
from turnedvalleys.shapes import shape, shape_right

EXAMPLE_SHAPE = ((1, 2, -1), (2, 3, -1), (3, 5, -1), (4, 5, -1), (5, 7, 1), (6, 8, 0), (7, 9, 0), (8, 9, 1),
                 (9, None, -1))
GREAT = 10 ** 15


def all_shapes(n, ends):
    """The shapes of all rows of the stones 0 to n - 1 with these ends."""
    return {plain.shape(Row(stones, ends=ends)) for stones in permutations(range(n))}


def changed(triples):
    """The triples with one part changed, one left out, put in twice, exchanged, cut or longer."""
    for i, (x, p, s) in enumerate(triples):
        others = [(x, p, t) for t in (-2, -1, 0, 1, 2, None, "0") if t != s]
        others += [(x, q, s) for q in [None, x, -7, "1"] + [triple[0] for triple in triples] if q != p]
        others += [(y, p, s) for y in [None, "1", x - 1, x + 1, GREAT, -GREAT]]
        others += [(x, p), (x, p, s, s), (x,), (), None, x, (x, (p,), s)]
        for other in others:
            yield triples[:i] + (other,) + triples[i + 1:]
        yield triples[:i] + triples[i + 1:]
        yield triples[:i] + triples[i:i + 1] + triples[i:]
        if i:
            yield triples[:i - 1] + (triples[i], triples[i - 1]) + triples[i + 1:]


class TestShape(RefusingTest):
    def test_example(self):
        self.assertEqual(shape(plain.example()), EXAMPLE_SHAPE)
        self.assertEqual(shape(plain.example(())), EXAMPLE_SHAPE)
        self.assertIs(shape_right(EXAMPLE_SHAPE, 0), True)

    def test_small_rows_by_the_words(self):
        for row in plain.rows(5):
            self.same_kind(shape(row), plain.shape(row))

    def test_one_stone(self):
        for ends in plain.ENDS:
            self.assertEqual(shape(Row((-5,), ends=ends)), ((-5, None, -1),))
            self.assertIs(shape_right(((-5, None, -1),), ends), True)

    def test_names_of_arguments(self):
        self.assertEqual(shape(row=plain.example()), EXAMPLE_SHAPE)
        self.assertIs(shape_right(ends=0, triples=EXAMPLE_SHAPE), True)


class TestShapeRight(RefusingTest):
    def test_every_shape_with_each_of_the_ends(self):
        for n in range(1, 6):
            known = {ends: all_shapes(n, ends) for ends in plain.ENDS}
            for triples in set().union(*known.values()):
                for ends in plain.ENDS:
                    self.same_kind(shape_right(triples, ends), triples in known[ends])

    def test_all_triples_of_few_stones(self):
        for n in (1, 2, 3):
            known = {ends: all_shapes(n, ends) for ends in plain.ENDS}
            parts = [[(x, p, s) for p in (None,) + tuple(range(n)) for s in (-1, 0, 1)] for x in range(n)]
            for triples in product(*parts):
                for ends in plain.ENDS:
                    self.assertIs(shape_right(triples, ends), triples in known[ends])

    def test_changed_shapes(self):
        for n in (1, 3, 4):
            for ends in plain.ENDS:
                known = all_shapes(n, ends)
                for triples in known:
                    for other in changed(triples):
                        if len(other) == n and all(isinstance(t, tuple) and len(t) == 3 for t in other) \
                                and [t[0] for t in other] == list(range(n)):
                            self.assertIs(shape_right(other, ends), other in known)

    def test_changed_forms(self):
        # Without a stone that has no children a shape is still one, of a shorter row.
        shorter = [tuple(t for t in EXAMPLE_SHAPE if t[0] != x) for x in (1, 4, 6)]
        for other in changed(EXAMPLE_SHAPE):
            if len(other) != 9 or [t for t in other if not isinstance(t, tuple) or len(t) != 3]:
                self.assertIs(shape_right(other, 0), other in shorter, other)

    def test_single_faults(self):
        right = ((1, 3, -1), (2, 3, -1), (3, 4, 0), (4, None, -1))
        self.assertIs(shape_right(right, 1), True)
        wrong = (
            ((1, 3, -1), (2, 3, -1), (3, 4, 1), (4, None, -1)),
            ((1, 3, 0), (2, 3, -1), (3, 4, 0), (4, None, -1)),
            ((1, 3, -1), (2, 3, -1), (3, 4, -1), (4, None, -1)),
            ((1, 3, -1), (2, 3, -1), (3, 4, 0), (4, None, 0)),
            ((1, 3, -1), (2, 3, -1), (3, None, -1), (4, None, -1)),
            ((1, 3, -1), (2, 3, -1), (3, 4, 0), (4, 4, -1)),
            ((1, 3, -1), (2, 1, -1), (3, 4, 0), (4, None, -1)),
            ((1, 3, -1), (2, 5, -1), (3, 4, 0), (4, None, -1)),
            ((2, 3, -1), (1, 3, -1), (3, 4, 0), (4, None, -1)),
            ((2, 3, -1), (2, 3, -1), (3, 4, 0), (4, None, -1)),
            ((0, 3, -1), (1, 3, -1), (2, 3, -1), (3, 4, 0), (4, None, -1)),
            ((1, 4, 0), (2, 3, -1), (3, 4, 0), (4, None, -1)),
            list(right),
            tuple(list(triple) for triple in right),
        )
        for triples in wrong:
            self.assertIs(shape_right(triples, 1), False, triples)

    def test_three_stones_beneath_an_inner_one(self):
        self.assertIs(shape_right(((0, 3, -1), (1, 3, -1), (3, None, -1)), 3), True)
        self.assertIs(shape_right(((0, 3, -1), (1, 3, -1), (2, 3, -1), (3, None, -1)), 3), False)

    def test_great_stones(self):
        for x, right in ((GREAT - 1, True), (GREAT, False), (10 ** 30, False)):
            self.assertIs(shape_right(((0, x, 1), (x, None, -1)), 0), right)
            self.assertIs(shape_right(((-x, 0, 1), (0, None, -1)), 0), right)

    def test_bools_are_no_numbers(self):
        self.assertIs(shape_right(((0, 1, 1), (1, None, -1)), 0), True)
        self.assertIs(shape_right(((0, True, 1), (1, None, -1)), 0), False)
        self.assertIs(shape_right(((0, 1, True), (1, None, -1)), 0), False)
        self.assertIs(shape_right(((False, 1, 1), (1, None, -1)), 0), False)

    def test_forty_and_forty_one_triples(self):
        for many, right in ((40, True), (41, False)):
            chain = tuple((x, x + 1, 0) for x in range(many - 1)) + ((many - 1, None, -1),)
            self.assertIs(shape_right(chain, 0), right)
        self.assertEqual(shape(Row(tuple(range(40)))), tuple((x, x + 1, 0) for x in range(39)) + ((39, None, -1),))

    def test_things_of_any_kind(self):
        for ends in plain.ENDS:
            self.assertIs(shape_right((), ends), False)
            for value in ANY:
                self.same_kind(shape_right(value, ends), False)

    def test_bad_ends(self):
        for ends in (-1, 4, -10 ** 20, 10 ** 20):
            for value in ANY + ((), EXAMPLE_SHAPE):
                self.refused(BadEnds, ends, shape_right, value, ends)


if __name__ == "__main__":
    unittest.main()
