"""[37]: like_count."""

import unittest
from functools import lru_cache
from itertools import permutations, product

from tests import likeplain, plain
from tests.refusing import RefusingTest
from turnedvalleys.classcounts import class_count
from turnedvalleys.errors import BadCount, BadEnds, BadSize
from turnedvalleys.likecounts import like_count


def within(content):
    return product(*(range(many + 1) for many in content))


def less(content, some):
    return tuple(many - k for many, k in zip(content, some))


def top_of(content):
    """k and r of a content."""
    at = max(i for i, many in enumerate(content) if many)
    return content[at], content[:at] + (0,) + content[at + 1:]


@lru_cache(maxsize=None)
def chains(m, content):
    """N(m, c)."""
    if m == 0:
        return 0 if any(content) else 1
    return sum(closed(some) * chains(m - 1, less(content, some)) for some in within(content))


@lru_cache(maxsize=None)
def closed(content):
    """V(c)."""
    if not any(content):
        return 1
    k, r = top_of(content)
    if k % 2:
        even = not any(many % 2 for many in r)
        mirrored = chains((k + 1) // 2, tuple(many // 2 for many in r)) if even else 0
    else:
        mirrored = sum(closed(some) * chains(k // 2, tuple(many // 2 for many in less(r, some)))
                       for some in within(r) if not any(many % 2 for many in less(r, some)))
    return (chains(k + 1, r) + mirrored) // 2


@lru_cache(maxsize=None)
def edged(content):
    """U(c)."""
    if not any(content):
        return 1
    k, r = top_of(content)
    return sum(edged(some) * chains(k, less(r, some)) for some in within(r))


def counted(counts, ends):
    """The number of classes, by the words of the document."""
    if ends == 3:
        return closed(counts)
    if ends in (1, 2):
        return edged(counts)
    k, r = top_of(counts)
    return sum(edged(a) * edged(b) * chains(k - 1, less(less(r, a), b))
               for a in within(r) for b in within(less(r, a)))


def counts_of(size, most):
    """All counts of so many numbers with a sum of at most so much."""
    if size == 0:
        yield ()
        return
    for many in range(1, most - size + 2):
        for rest in counts_of(size - 1, most - many):
            yield (many,) + rest


def all_counts(most, sizes=range(1, 7)):
    """All counts of so many numbers with a sum of at most so much."""
    for size in sizes:
        yield from counts_of(size, most)


class TestLikeCount(RefusingTest):
    def test_examples(self):
        for counts, said in (((2, 1), (3, 3, 3, 2)), ((2, 2, 1), (30, 24, 24, 10)), ((2, 2, 2), (78, 67, 67, 32))):
            for ends in plain.ENDS:
                self.same_kind(like_count(counts, ends=ends), said[ends])
            self.assertEqual(like_count(counts), said[0])

    def test_small_counts_by_a_plain_listing(self):
        for counts in all_counts(5):
            stones = [x for x, many in enumerate(counts) for _ in range(many)]
            orders = sorted(set(permutations(stones)))
            for ends in plain.ENDS:
                self.same_kind(like_count(counts, ends=ends), len(list(likeplain.classes(orders, ends))))

    def test_some_of_six_and_seven_stones_by_a_plain_listing(self):
        for counts in ((2, 2, 2), (1, 2, 3), (3, 2, 1), (1, 1, 4), (3, 3), (2, 1, 1, 2), (6,), (3, 1, 3), (4, 3)):
            stones = [x for x, many in enumerate(counts) for _ in range(many)]
            orders = sorted(set(permutations(stones)))
            for ends in plain.ENDS:
                self.assertEqual(like_count(counts, ends=ends), len(list(likeplain.classes(orders, ends))))

    def test_by_the_words(self):
        some = list(all_counts(12, (1, 2))) + list(all_counts(8, (3, 4))) + list(all_counts(12, (6,)))[::61]
        for counts in some + [(3, 3, 3, 3), (4, 4, 4), (2, 3, 4, 3), (3, 3, 2, 2, 2), (7, 1, 1, 1, 1, 1)]:
            for ends in plain.ENDS:
                self.same_kind(like_count(counts, ends=ends), counted(counts, ends))

    def test_six_stones_of_two_each(self):
        self.assertEqual([like_count((2,) * 6, ends=ends) for ends in plain.ENDS],
                         [counted((2,) * 6, ends) for ends in plain.ENDS])

    def test_different_stones_and_equal_ones(self):
        for ends in plain.ENDS:
            for n in range(1, 7):
                self.assertEqual(like_count((1,) * n, ends=ends), class_count(n, ends=ends))
            for n in range(1, 13):
                self.assertEqual(like_count((n,), ends=ends), 1)

    def test_how_many_counts(self):
        self.refused(BadSize, 0, like_count, ())
        self.refused(BadSize, 7, like_count, (1,) * 7)
        self.refused(BadSize, 7, like_count, (0,) * 7, ends=4)
        self.refused(BadSize, 100, like_count, (1,) * 100)

    def test_numbers_below_one(self):
        for bad in (0, -1, -10 ** 30):
            for size in range(1, 7):
                for i in range(size):
                    counts = (1,) * i + (bad,) + (20,) * (size - 1 - i)
                    self.refused(BadCount, bad, like_count, counts)
                    self.refused(BadCount, bad, like_count, counts, ends=4)
        self.refused(BadCount, -3, like_count, (1, -3, 0))
        self.refused(BadCount, 0, like_count, (13, 0, -5))

    def test_sums(self):
        for counts in ((12,), (1, 11), (11, 1), (2,) * 6, (3, 4, 5), (1, 1, 1, 1, 1, 7)):
            for ends in plain.ENDS:
                self.assertEqual(like_count(counts, ends=ends), counted(counts, ends))
        for counts in ((13,), (1, 12), (12, 1), (2, 2, 2, 2, 2, 3), (10 ** 30,), (5, 5, 5)):
            self.refused(BadCount, sum(counts), like_count, counts)
            self.refused(BadCount, sum(counts), like_count, counts, ends=-1)

    def test_bad_ends(self):
        for ends in (-1, 4, 10 ** 30):
            for counts in ((1,), (2, 1), (2,) * 6):
                self.refused(BadEnds, ends, like_count, counts, ends=ends)

    def test_names_of_arguments(self):
        self.assertEqual(like_count(ends=3, counts=(2, 1)), 2)
        with self.assertRaises(TypeError):
            like_count((2, 1), 3)


if __name__ == "__main__":
    unittest.main()
