"""[30]: class_number, class_at."""

import unittest
from itertools import combinations
from math import comb

from tests import plain
from tests.counting import BAD_RULES, EVERY, closed, counted, half
from tests.refusing import RefusingTest
from turnedvalleys.classnumbers import class_at, class_number
from turnedvalleys.errors import BadEnds, BadNumber, BadRule, BadSize, BadStone
from turnedvalleys.kin import normal
from turnedvalleys.rows import Row
from turnedvalleys.runs import walked

RULES = (None, (), (2,), (3,), (2, 4), (2, 5), EVERY)
GREAT = 10 ** 15


def set_number(part, whole):
    """The number of a set of stones in a greater set, by listing."""
    listed = list(combinations(sorted(whole), len(part)))
    return listed.index(tuple(sorted(part)))


def part_number(row, part, ends):
    """The number of a part, word by word."""
    k, rule = len(part), row.rule
    if k < 2:
        return 0
    r = max(part)
    ahead, behind = part[:part.index(r)], part[part.index(r) + 1:]
    if ends == 3:
        return closed_number(row, part, r, ahead, behind)
    if ends == 0:
        u, w, u_ends, w_ends, others = ahead, behind, 2, 1, half
    elif ends == 1:
        u, w, u_ends, w_ends, others = behind, ahead, 1, 3, closed
    else:
        u, w, u_ends, w_ends, others = ahead, behind, 2, 3, closed
    j = len(u)
    number = sum(comb(k - 1, i) * half(i, rule) * others(k - 1 - i, rule) for i in range(j))
    number += set_number(u, ahead + behind) * half(j, rule) * others(k - 1 - j, rule)
    number += part_number(row, u, u_ends) * others(k - 1 - j, rule)
    return number + part_number(row, w, w_ends)


def closed_number(row, part, r, ahead, behind):
    """The number of a part with no open end."""
    k, rule = len(part), row.rule
    c = max(ahead + behind)
    g, h = (ahead, behind) if c in ahead else (behind, ahead)
    j = len(g)

    def ways(i):
        return comb(k - 2, i - 1) * closed(i, rule) * closed(k - 1 - i, rule)

    number = sum(ways(i) for i in range(1, j))
    number += (set_number([x for x in g if x != c], [x for x in g + h if x != c])
               * closed(j, rule) * closed(k - 1 - j, rule))
    number += part_number(row, g, 3) * closed(k - 1 - j, rule) + part_number(row, h, 3)
    if not plain.lets(rule, k) and plain.sense(row, r) == 1:
        number += sum(ways(i) for i in range(1, k))
    return number


class TestClassNumbers(RefusingTest):
    def test_examples(self):
        self.assertEqual([class_number(Row(stones, ends=3)) for stones in ((1, 3, 2), (3, 1, 2), (3, 2, 1))], [0, 1, 1])
        self.assertEqual([class_number(Row(stones)) for stones in ((2, 1), (1, 2))], [0, 1])
        self.same_kind(class_number(plain.example()), 86874)
        self.same_kind(class_number(plain.example((2, 5))), 127540)
        row = class_at(tuple(range(1, 10)), 86874)
        self.assertEqual(plain.whole(row), (normal(plain.example()).stones, 0, None))
        row = class_at(tuple(range(1, 10)), 127540, rule=(2, 5))
        self.assertEqual(plain.whole(row), (normal(plain.example((2, 5))).stones, 0, (2, 5)))

    def test_all_orders_of_up_to_five_stones(self):
        for n in range(1, 6):
            for ends in plain.ENDS:
                for rule in RULES:
                    self.check_all_classes(n, ends, rule)

    def check_all_classes(self, n, ends, rule):
        """One number for each class, as the words say, and all from 0 on."""
        found = []
        for rows in plain.classes_of(range(n), ends, rule):
            numbers = {class_number(row) for row in rows}
            self.assertEqual(len(numbers), 1)
            number = numbers.pop()
            self.same_kind(number, part_number(rows[0], rows[0].stones, ends))
            found.append(number)
            there = class_at(tuple(range(n)), number, ends=ends, rule=rule)
            self.assertIsInstance(there, Row)
            said, = [row for row in rows if not any(plain.sense(row, x) for x in plain.free_heads(row))]
            self.assertEqual(plain.whole(there), plain.whole(said))
        self.assertEqual(sorted(found), list(range(counted(n, ends, rule))))

    def test_other_stones_of_the_same_order(self):
        others = (-GREAT + 1, -5, 0, 7, GREAT - 1)
        for stones in list(plain.orders(5, 5))[::7]:
            for ends in plain.ENDS:
                number = class_number(Row(stones, ends=ends, rule=(3,)))
                self.assertEqual(class_number(Row(tuple(others[x] for x in stones), ends=ends, rule=(3,))), number)
                row = class_at(others, number, ends=ends, rule=(3,))
                self.assertEqual(class_number(row), number)
                self.assertEqual(sorted(row.stones), list(others))

    def test_rows_of_twelve_stones_by_the_words(self):
        for stones in ((7, 3, 1, 2, 5, 4, 11, 9, 6, 8, 0, 10), (0, 11, 1, 10, 2, 9, 3, 8, 4, 7, 5, 6),
                       tuple(range(12)), tuple(range(11, -1, -1)), (4, 0, 8, 2, 6, 10, 1, 5, 9, 3, 7, 11)):
            for ends in plain.ENDS:
                for rule in RULES + ((3, 6, 9, 12),):
                    row = Row(stones, ends=ends, rule=rule)
                    number = class_number(row)
                    self.same_kind(number, part_number(row, stones, ends))
                    self.assertEqual(plain.whole(class_at(tuple(range(12)), number, ends=ends, rule=rule)),
                                     plain.whole(normal(row)))

    def test_rows_of_forty_stones_there_and_back(self):
        for stones in (tuple(range(40)), tuple(range(39, -1, -1)), tuple(7 * x % 40 for x in range(40)),
                       tuple(17 * x % 40 for x in range(40))):
            for ends in plain.ENDS:
                for rule in (None, (), (2, 3, 5, 40), EVERY, (3, 4, 6, 9, 12, 38)):
                    row = Row(stones, ends=ends, rule=rule)
                    number = class_number(row)
                    self.assertLess(number, counted(40, ends, rule))
                    there = class_at(tuple(range(40)), number, ends=ends, rule=rule)
                    self.assertEqual(plain.whole(there), plain.whole(normal(row)))
                    free = plain.free_heads(row)
                    self.assertEqual(class_number(walked(row, free[::2])), number)

    def test_numbers_of_forty_stones_there_and_back(self):
        for ends in plain.ENDS:
            for rule in (None, (), (2, 3, 5, 40), EVERY):
                many = counted(40, ends, rule)
                for k in (0, 1, many // 3, many // 2, 2 * many // 3 + 12345, many - 2, many - 1):
                    row = class_at(tuple(range(40)), k, ends=ends, rule=rule)
                    self.assertEqual(class_number(row), k)
                    self.assertEqual((row.ends, row.rule), (ends, rule))
                    self.assertEqual(normal(row).stones, row.stones)

    def test_one_stone(self):
        for ends in plain.ENDS:
            self.assertEqual(class_number(Row((-3,), ends=ends)), 0)
            self.assertEqual(plain.whole(class_at((-3,), 0, ends=ends, rule=(5,))), ((-3,), ends, (5,)))

    def test_bad_stones(self):
        for many in (0, 41, 60):
            self.refused(BadSize, many, class_at, (GREAT,) * many, -1, ends=4)
        for stones, i in (((GREAT,), 0), ((-GREAT, 5), 0), ((1, GREAT), 1), ((2, 1), 1), ((1, 1), 1), ((1, 3, 2, 1), 2),
                          ((1, 2, 2, GREAT), 2), ((0, -1), 1), (tuple(range(39)) + (38,), 39)):
            self.refused(BadStone, i, class_at, stones, 0)
            self.refused(BadStone, i, class_at, stones, -1, ends=4, rule=(1,))

    def test_bad_ends_and_rules(self):
        for ends in (-1, 4, 10 ** 30):
            self.refused(BadEnds, ends, class_at, (1, 2), 0, ends=ends)
            self.refused(BadEnds, ends, class_at, (1, 2), -1, ends=ends, rule=(1,))
        for rule, i in BAD_RULES:
            for ends in plain.ENDS:
                self.refused(BadRule, i, class_at, (1, 2), 0, ends=ends, rule=rule)
                self.refused(BadRule, i, class_at, (1, 2), -1, ends=ends, rule=rule)

    def test_bad_numbers(self):
        for n in (1, 2, 5, 12, 40):
            for ends in plain.ENDS:
                for rule in (None, (), (2, 5)):
                    many = counted(n, ends, rule)
                    for k in (-1, many, many + 1, -10 ** 60, 10 ** 60):
                        self.refused(BadNumber, k, class_at, tuple(range(n)), k, ends=ends, rule=rule)

    def test_names_of_arguments(self):
        self.assertEqual(class_number(row=Row((1, 2))), 1)
        self.assertEqual(class_at(rule=None, ends=0, k=1, stones=(1, 2)).stones, (1, 2))
        with self.assertRaises(TypeError):
            class_at((1, 2), 0, 0)


if __name__ == "__main__":
    unittest.main()
