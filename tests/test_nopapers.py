"""[17]: paper, paper_right; [0.3] (a)."""

import unittest
from itertools import permutations, product

from tests import plain
from tests.refusing import RefusingTest
from tests.strangers import NOT_SAME, UNLIKE
from tests.values import ANY
from turnedvalleys.errors import Unlike
from turnedvalleys.nopapers import paper, paper_right
from turnedvalleys.rows import Row
from turnedvalleys.turning import turned

GREAT = 10 ** 15
OPEN = (Row((1, 2)), Row((2, 1)))
LOTS = (Row((1, 3, 2), ends=3), Row((3, 1, 2), ends=3))
HELD = (Row((1, 2), ends=3, rule=()), Row((2, 1), ends=3, rule=()))
DUE = ((OPEN, ("order", 1, 2)), (LOTS, ("lot", 2)), (HELD, ("sense", 2)))


def is_record(row, x):
    return "open" in plain.closers(row, x)


def plain_paper(one, two):
    """The paper that is due, by the words of the document; None if there is none."""
    for x in sorted(one.stones):
        if set(plain.lot(one, x)) != set(plain.lot(two, x)):
            return ("lot", x)
    for x in sorted(one.stones, reverse=True):
        p = plain.parent(one, x)
        if p is not None and is_record(one, p) and plain.ahead(one, x, p) != plain.ahead(two, x, p):
            return ("order", x, p)
    for x in plain.held_heads(one):
        if plain.sense(one, x) != plain.sense(two, x):
            return ("sense", x)
    return None


def plain_right(one, two, said):
    """Whether a paper of right form is right, by the words of the document."""
    numbers = said[1:]
    if not set(numbers) <= set(one.stones):
        return False
    x, y = numbers[0], numbers[-1]
    if said[0] == "lot":
        return set(plain.lot(one, x)) != set(plain.lot(two, x))
    if said[0] == "order":
        return (x != y and plain.ahead(one, x, y) != plain.ahead(two, x, y)
                and is_record(one, plain.meets(one, x, y)) and is_record(two, plain.meets(two, x, y)))
    return (plain.is_head(one, x) and plain.is_head(two, x)
            and set(plain.lot(one, x)) == set(plain.lot(two, x))
            and not plain.lets(one.rule, len(plain.lot(one, x)))
            and plain.sense(one, x) != plain.sense(two, x))


def papers(numbers):
    """All papers with these numbers."""
    for x in numbers:
        yield ("lot", x)
        yield ("sense", x)
        for y in numbers:
            yield ("order", x, y)


def pairs(n, ends, rule):
    """All pairs of Rows of the stones 0 to n - 1."""
    rows = [Row(stones, ends=ends, rule=rule) for stones in permutations(range(n))]
    return product(rows, repeat=2)


class TestPapers(RefusingTest):
    def test_examples_both_ways_about(self):
        for (one, two), said in DUE:
            self.same_kind(paper(one, two), said)
            self.same_kind(paper(two, one), said)
            self.assertIs(paper_right(one, two, said), True)
            self.assertIs(paper_right(two, one, said), True)
            self.assertIs(paper_right(one, one, said), False)

    def test_small_pairs_by_the_words(self):
        for n in (1, 2, 3, 4):
            for ends in plain.ENDS:
                for rule in plain.RULES:
                    for one, two in pairs(n, ends, rule):
                        said = plain_paper(one, two)
                        self.same_kind(paper(one, two), said)
                        if said is not None:
                            self.assertIs(paper_right(one, two, said), True)

    def test_there_is_one_just_where_no_run_leads(self):
        for n in (2, 3, 4):
            for ends in plain.ENDS:
                for rule in (None, (), (2, 4)):
                    for row in plain.classes_of(range(n), ends, rule):
                        kin = {one.stones for one in row}
                        for stones in permutations(range(n)):
                            said = paper(row[0], plain.like(row[0], stones))
                            self.assertEqual(said is None, stones in kin)

    def test_larger_pairs_by_the_words(self):
        rows = [(7, 3, 1, 2, 5, 4, 9, 6, 8), (7, 4, 5, 1, 2, 3, 9, 6, 8), (9, 3, 1, 2, 5, 4, 7, 6, 8),
                (6, 8, 9, 7, 3, 1, 2, 5, 4), (7, 3, 1, 2, 5, 4, 9, 8, 6), (8, 6, 9, 3, 1, 2, 5, 4, 7),
                (4, 5, 2, 1, 3, 7, 9, 8, 6), (1, 2, 3, 4, 5, 6, 7, 8, 9), (9, 8, 7, 6, 5, 4, 3, 2, 1)]
        for one, two in product(rows, repeat=2):
            for ends in plain.ENDS:
                for rule in (None, (2, 5), (3, 9), ()):
                    a, b = Row(one, ends=ends, rule=rule), Row(two, ends=ends, rule=rule)
                    self.same_kind(paper(a, b), plain_paper(a, b))

    def test_the_greatest_stone_comes_first_for_an_order(self):
        self.assertEqual(paper(Row((1, 2, 3)), Row((3, 2, 1))), ("order", 2, 3))
        self.assertEqual(paper(Row((1, 2, 3)), Row((2, 1, 3))), ("order", 1, 2))

    def test_the_least_stone_comes_first_for_lots_and_senses(self):
        self.assertEqual(paper(Row((1, 5, 2, 6, 3)), Row((2, 5, 1, 3, 6))), ("lot", 3))
        self.assertEqual(paper(Row((1, 2, 3), ends=3, rule=()), Row((3, 2, 1), ends=3, rule=())), ("sense", 3))
        self.assertEqual(paper(Row((1, 2, 3), ends=3, rule=()), Row((3, 1, 2), ends=3, rule=())), ("sense", 2))
        self.assertEqual(paper(Row((1, 2, 4, 3), ends=3), Row((4, 3, 2, 1), ends=3)), ("lot", 3))

    def test_whatever_free_heads_are_turned(self):
        for n in (3, 4):
            for ends in plain.ENDS:
                for rule in (None, (2,), (3,)):
                    for one, two in list(pairs(n, ends, rule))[::7]:
                        self.check_turns(one, two)

    def check_turns(self, one, two):
        said = paper(one, two)
        right = [other for other in papers(one.stones) if paper_right(one, two, other)]
        for x in plain.free_heads(one):
            self.assertEqual(paper(turned(one, x), two), said)
            self.assertEqual([other for other in papers(one.stones) if paper_right(turned(one, x), two, other)], right)
        for x in plain.free_heads(two):
            self.assertEqual(paper(one, turned(two, x)), said)

    def test_forty_stones(self):
        row = Row(tuple(range(40)), ends=3, rule=(2, 40))
        two = Row(tuple(range(39, -1, -1)), ends=3, rule=(2, 40))
        self.assertIsNone(paper(row, two))
        three = Row(tuple(range(38, -1, -1)) + (39,), ends=3, rule=(2, 40))
        self.assertEqual(paper(row, three), ("sense", 38))
        self.assertIs(paper_right(row, three, ("sense", 38)), True)
        self.assertIs(paper_right(row, three, ("sense", 39)), False)

    def test_unlike(self):
        for word, one, two in UNLIKE:
            self.refused(Unlike, word, paper, one, two)
            self.refused(Unlike, word, paper, two, one)
        for one, two in NOT_SAME:
            self.assertIs(paper_right(one, two, paper(one, two)), True)

    def test_names_of_arguments(self):
        self.assertEqual(paper(two=OPEN[1], one=OPEN[0]), ("order", 1, 2))
        self.assertIs(paper_right(paper=("lot", 2), two=LOTS[1], one=LOTS[0]), True)


class TestPaperRight(RefusingTest):
    def test_all_papers_of_small_pairs(self):
        for n, rules in ((1, (None,)), (2, plain.RULES), (3, plain.RULES), (4, ((2,),))):
            for ends in plain.ENDS:
                for rule in rules:
                    for one, two in list(pairs(n, ends, rule))[::n]:
                        for said in papers(range(-1, n + 1)):
                            self.same_kind(paper_right(one, two, said), plain_right(one, two, said))

    def test_no_paper_is_right_for_rows_that_are_same(self):
        for rows in plain.classes(4, (None, (2,), (3,)), least=2):
            for one, two in list(product(rows, repeat=2))[::3]:
                for said in papers(one.stones):
                    self.assertIs(paper_right(one, two, said), False)

    def test_the_example_row(self):
        one = plain.example((2, 5))
        for stones in ((7, 4, 5, 1, 3, 2, 9, 6, 8), (7, 1, 2, 3, 5, 4, 9, 6, 8), (7, 3, 1, 2, 5, 4, 9, 8, 6),
                       (8, 6, 9, 3, 1, 2, 5, 4, 7), (7, 4, 5, 2, 1, 3, 9, 6, 8), (9, 8, 7, 6, 5, 4, 3, 2, 1)):
            two = plain.like(one, stones)
            for said in papers(range(0, 11)):
                self.assertIs(paper_right(one, two, said), plain_right(one, two, said))

    def test_two_alike_stones(self):
        for (one, two), _ in DUE:
            for x in (0, 1, 2, 3):
                self.assertIs(paper_right(one, two, ("order", x, x)), False)

    def test_numbers_that_are_no_stones(self):
        for (one, two), _ in DUE:
            for x in (0, -1, 4, GREAT - 1, 1 - GREAT):
                for said in (("lot", x), ("sense", x), ("order", x, 2), ("order", 1, x)):
                    self.assertIs(paper_right(one, two, said), False)

    def test_great_stones_and_numbers(self):
        x, y = 1 - GREAT, GREAT - 1
        self.assertIs(paper_right(Row((x, y)), Row((y, x)), ("order", x, y)), True)
        for said in (("order", -GREAT, 2), ("order", 1, GREAT), ("lot", GREAT), ("sense", 10 ** 30)):
            for (one, two), _ in DUE:
                self.assertIs(paper_right(one, two, said), False)

    def test_other_forms(self):
        wrong = [("order", 1), ("order", 2), ("order",), ("order", 1, 2, 2), ("order", 1, 2, None), ("lot", 2, 2),
                 ("lot",), ("lot", 2, None), ("sense", 2, 2), ("sense",), ("Lot", 2), ("lots", 2), ("", 2), (None, 2),
                 (("lot",), 2), (2, "lot"), ("senses", 2), ("orders", 1, 2), ("lot", "2"), ("lot", None), ("lot", (2,)),
                 ("lot", ()), ("sense", "2"), ("sense", None), ("sense", (2,)), ("order", "1", 2), ("order", 1, "2"),
                 ("order", None, 2), ("order", 1, None), ("order", (1,), 2), ("order", 1, (2,)), ("order", (1, 2)),
                 "lot", "lot 2", (), (("lot", 2),), (("order", 1, 2),), (("sense", 2),), ("lot", 2) * 2, 2, None]
        for (one, two), _ in DUE:
            for said in wrong + list(ANY):
                self.assertIs(paper_right(one, two, said), False)
                self.assertIs(paper_right(two, one, said), False)

    def test_rows_that_are_unlike(self):
        for _, one, two in UNLIKE:
            for said in papers((1, 2, 3)):
                self.assertIs(paper_right(one, two, said), False)
                self.assertIs(paper_right(two, one, said), False)
            for said in ANY:
                self.assertIs(paper_right(one, two, said), False)
        every = tuple(range(2, 41))
        self.assertIs(paper_right(Row((1, 2), rule=every), Row((2, 1)), ("order", 1, 2)), False)
        self.assertIs(paper_right(Row((1, 2)), Row((2, 1), rule=every), ("order", 1, 2)), False)
        for ends in (1, 2, 3):
            self.assertIs(paper_right(Row((1, 2)), Row((2, 1), ends=ends), ("order", 1, 2)), False)
            self.assertIs(paper_right(Row((2, 1), ends=ends), Row((1, 2)), ("order", 1, 2)), False)
            self.assertIs(paper_right(Row((1, 3, 2), ends=ends), Row((3, 1, 2)), ("lot", 2)), False)
        self.assertIs(paper_right(Row((1, 2, 5)), Row((2, 1, 6)), ("order", 1, 2)), False)
        self.assertIs(paper_right(Row((1, 2, 5)), Row((2, 1)), ("order", 1, 2)), False)
        self.assertIs(paper_right(Row((1, 3, 2), ends=3), Row((4, 1, 2), ends=3), ("lot", 2)), False)
        self.assertIs(paper_right(Row((1, 2), rule=every), Row((2, 1), rule=every), ("order", 1, 2)), True)


if __name__ == "__main__":
    unittest.main()
