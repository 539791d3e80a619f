"""[35]: tops, like_parts."""

import unittest

from tests import likeplain, plain
from tests.refusing import RefusingTest
from turnedvalleys.likeparts import like_parts, tops
from turnedvalleys.likerows import LikeRow


def plain_parts(row):
    """The parts by the words of the document: each found from its neighbours, by a look at all stretches."""
    top = max(row.stones)
    n = len(row.stones)
    # A part stands between two neighbours; the places -1 and n are the ends of the row.
    edges = [-1] + [k for k in range(n) if row.stones[k] == top] + [n]
    found = []
    for left, right in zip(edges, edges[1:]):
        ahead = left >= 0 or row.ends in (1, 3)
        behind = right < n or row.ends in (2, 3)
        found.append((row.stones[left + 1:right], ahead + 2 * behind))
    return tuple(found)


class TestTops(RefusingTest):
    def test_some(self):
        for ends in plain.ENDS:
            self.same_kind(tops(LikeRow((1, 3, 2, 3, 3), ends=ends)), (1, 3, 4))
            self.same_kind(tops(LikeRow((5,), ends=ends)), (0,))
            self.same_kind(tops(LikeRow((-2, -1), ends=ends)), (1,))
            self.same_kind(tops(LikeRow((7,) * 24, ends=ends)), tuple(range(24)))

    def test_small_rows(self):
        for row in likeplain.like_rows(4):
            self.same_kind(tops(row), tuple(k for k, x in enumerate(row.stones) if x == max(row.stones)))

    def test_names_of_arguments(self):
        self.assertEqual(tops(row=LikeRow((1, 2))), (1,))


class TestParts(RefusingTest):
    def test_tops_at_both_ends_and_side_by_side(self):
        for ends, first, last in ((0, 2, 1), (1, 3, 1), (2, 2, 3), (3, 3, 3)):
            self.same_kind(like_parts(LikeRow((3, 1, 3, 3, 2, 2, 3), ends=ends)),
                           (((), first), ((1,), 3), ((), 3), ((2, 2), 3), ((), last)))

    def test_one_top(self):
        for ends, first, last in ((0, 2, 1), (1, 3, 1), (2, 2, 3), (3, 3, 3)):
            self.assertEqual(like_parts(LikeRow((1, 2, 9, 4), ends=ends)), (((1, 2), first), ((4,), last)))
            self.assertEqual(like_parts(LikeRow((9,), ends=ends)), (((), first), ((), last)))

    def test_small_rows(self):
        for row in likeplain.like_rows(4):
            found = like_parts(row)
            self.same_kind(found, plain_parts(row))
            self.assertEqual(len(found), len(tops(row)) + 1)
            for part in found:
                self.assertEqual([thing.__class__ for thing in (part,) + part], [tuple, tuple, int])

    def test_names_of_arguments(self):
        self.assertEqual(like_parts(row=LikeRow((1, 2))), (((1,), 2), ((), 1)))


if __name__ == "__main__":
    unittest.main()
