"""[0.3]: what holds over the whole program."""

import unittest
from itertools import permutations, product

from tests import likeplain, plain, ringplain
from tests.refusing import RefusingTest
from turnedvalleys.choosing import choose, subset_at, subset_number
from turnedvalleys.classcounts import class_count
from turnedvalleys.classnumbers import class_at, class_number
from turnedvalleys.errors import BadText
from turnedvalleys.fewest import fewest, run_to
from turnedvalleys.forests import free_heads
from turnedvalleys.kin import class_size, dimension, same
from turnedvalleys.likedeeds import like_turned
from turnedvalleys.likerows import like_stretches
from turnedvalleys.nopapers import paper, paper_right
from turnedvalleys.orders import shortest_at, shortest_count
from turnedvalleys.othertexts import like_from, like_text, paper_from, paper_text, ring_from, ring_text
from turnedvalleys.ranks import number_of, row_at
from turnedvalleys.rings import ring_row, ring_turned
from turnedvalleys.rows import Row
from turnedvalleys.rowtext import row_from, row_text
from turnedvalleys.runs import run_right, walked
from turnedvalleys.runtext import run_from, run_text
from turnedvalleys.tours import tour_number, tour_row
from turnedvalleys.turning import turned

RULES = (None, (), (2,), (2, 4))


def papers(numbers):
    """All papers with these numbers."""
    for x in numbers:
        yield ("lot", x)
        yield ("sense", x)
        for y in numbers:
            yield ("order", x, y)


class TestWhoComes(RefusingTest):
    """(a) and (b)."""

    def test_small_rows(self):
        for n in (1, 2, 3):
            for ends in plain.ENDS:
                for rule in RULES:
                    self.check_rows([Row(stones, ends=ends, rule=rule) for stones in permutations(range(n))])

    def test_rows_of_four(self):
        for ends in plain.ENDS:
            for rule in (None, (2,)):
                self.check_rows([Row(stones, ends=ends, rule=rule) for stones in list(permutations(range(4)))[::3]])

    def check_rows(self, rows):
        for one in rows:
            kin = plain.distances(one)
            self.assertEqual(len(kin), 2 ** dimension(one))
            self.assertEqual(len(kin), class_size(one))
            for two in rows:
                self.assertIs(same(one, two), two.stones in kin)
                if two.stones in kin:
                    self.check_comes(one, two, kin[two.stones])
                else:
                    self.assertIs(paper_right(one, two, paper(one, two)), True)

    def check_comes(self, one, two, many):
        run = run_to(one, two)
        self.assertIs(run_right(one, run, two), True)
        self.assertEqual((len(run), fewest(one, two)), (many, many))
        self.assertIsNone(paper(one, two))
        for said in papers(range(-1, len(one.stones) + 1)):
            self.assertIs(paper_right(one, two, said), False)


class TestNumbers(RefusingTest):
    """(c): each number in its range belongs to just one row or class, and no other number to any."""

    def test_rows_of_a_class(self):
        for rows in plain.classes(4, RULES):
            one = rows[0]
            orders = [row.stones for row in rows]
            self.assertEqual([row_at(one, k).stones for k in range(len(rows))], orders)
            self.assertEqual([number_of(row) for row in rows], list(range(len(rows))))
            on_tour = [tour_row(one, k) for k in range(len(rows))]
            self.assertEqual(sorted(row.stones for row in on_tour), orders)
            self.assertEqual([tour_number(one, row) for row in on_tour], list(range(len(rows))))

    def test_classes(self):
        for n in (1, 2, 3, 4):
            for ends in plain.ENDS:
                for rule in RULES:
                    many = class_count(n, ends=ends, rule=rule)
                    kin = [set(plain.distances(class_at(tuple(range(n)), k, ends=ends, rule=rule)))
                           for k in range(many)]
                    self.assertEqual(sorted(stones for one in kin for stones in one), list(permutations(range(n))))
                    for k, one in enumerate(kin):
                        self.assertEqual({class_number(Row(stones, ends=ends, rule=rule)) for stones in one}, {k})

    def test_runs_and_subsets(self):
        row = Row(tuple(range(6)), ends=3)
        goal = walked(row, (1, 2, 3, 4))
        runs = [shortest_at(row, goal, k) for k in range(shortest_count(row, goal))]
        self.assertEqual(runs, list(permutations((1, 2, 3, 4))))
        for size in range(6):
            for many in range(size + 1):
                found = [subset_at(size, many, k) for k in range(choose(size, many))]
                self.assertEqual(found, sorted(set(found)))
                self.assertEqual([subset_number(size, places) for places in found], list(range(len(found))))


class TestTurns(RefusingTest):
    """(d): each turn is taken back by the same turn."""

    def test_rows(self):
        for row in plain.rows(4, RULES):
            for x in free_heads(row):
                self.assertEqual(plain.whole(turned(turned(row, x), x)), plain.whole(row))

    def test_like_rows(self):
        for row in likeplain.like_rows(4):
            for i, j in like_stretches(row):
                found = like_turned(like_turned(row, i, j), i, j)
                self.assertEqual(likeplain.whole(found), likeplain.whole(row))

    def test_rings(self):
        for ring in ringplain.rings(5, RULES):
            for x in free_heads(ring_row(ring)):
                self.assertEqual(ringplain.whole(ring_turned(ring_turned(ring, x), x)), ringplain.whole(ring))


class TestTexts(RefusingTest):
    """(e): texts are read back as they were written, and written as they were read."""

    def there_and_back(self, text, read, write):
        self.same_kind(write(read(text)), text)

    def test_small_things(self):
        for row in plain.rows(4, RULES):
            self.assertEqual(plain.whole(row_from(row_text(row))), plain.whole(row))
            self.there_and_back(row_text(row), row_from, row_text)
        for row in likeplain.like_rows(3):
            self.assertEqual(likeplain.whole(like_from(like_text(row))), likeplain.whole(row))
            self.there_and_back(like_text(row), like_from, like_text)
        for ring in ringplain.rings(4, RULES):
            self.assertEqual(ringplain.whole(ring_from(ring_text(ring))), ringplain.whole(ring))
            self.there_and_back(ring_text(ring), ring_from, ring_text)
        for said in papers((-10, -1, 0, 1, 10)):
            self.same_kind(paper_from(paper_text(said)), said)
            self.there_and_back(paper_text(said), paper_from, paper_text)
        for many in range(4):
            for run in product((-5, 0, 12), repeat=many):
                self.same_kind(run_from(run_text(run)), run)
                self.there_and_back(run_text(run), run_from, run_text)

    def test_runs_and_papers_that_the_program_gives(self):
        for rows in plain.classes(4, (None, (2,))):
            for row in rows:
                run = run_to(rows[0], row)
                self.assertEqual(run_from(run_text(run)), run)
        for stones in permutations(range(4)):
            said = paper(Row((0, 1, 2, 3), rule=(2,)), Row(stones, rule=(2,)))
            if said is not None:
                self.assertEqual(paper_from(paper_text(said)), said)

    def test_each_short_text_is_refused_or_written_as_it_was_read(self):
        signs = ("", "0", "1", "-1", "01", "-0", "2", "all", "none", "2,3", "row", "like", "ring", "lot", "order", "sense")
        pairs = ((row_from, row_text), (run_from, run_text), (like_from, like_text), (ring_from, ring_text),
                 (paper_from, paper_text))
        for many in (1, 2, 3, 4):
            for words in product(signs, repeat=many):
                for read, write in pairs:
                    self.check_text(" ".join(words), read, write)

    def check_text(self, text, read, write):
        try:
            found = read(text)
        except BadText:
            return
        self.assertEqual(write(found), text)


if __name__ == "__main__":
    unittest.main()
