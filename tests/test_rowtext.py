"""[40]: row_text, row_from."""

import unittest

from tests import plain
from tests.badwords import NO_ENDS, NO_NUMBERS, NO_RULES, refuses_missing, refuses_spaces, refuses_words
from tests.refusing import RefusingTest
from turnedvalleys.errors import BadText
from turnedvalleys.rows import Row
from turnedvalleys.rowtext import row_from, row_text

GREAT = 10 ** 15
EVERY = tuple(range(2, 41))
EVERY_WORD = ",".join(str(length) for length in EVERY)
GOOD = "row 2 2,5,40 7 -3 0 12"


class TestRowText(RefusingTest):
    def check(self, row, text):
        self.same_kind(row_text(row), text)
        found = row_from(text)
        self.assertIsInstance(found, Row)
        self.assertEqual(plain.whole(found), plain.whole(row))
        self.assertEqual([part.__class__ for part in plain.whole(found)], [part.__class__ for part in plain.whole(row)])
        self.assertEqual(row_text(found), text)

    def test_there_and_back(self):
        self.check(Row((2, 1), ends=3), "row 3 all 2 1")
        self.check(Row((5,), rule=()), "row 0 none 5")
        self.check(Row((7, -3, 0, 12), ends=2, rule=(2, 5, 40)), GOOD)
        self.check(Row((-1, 1), ends=1, rule=(3,)), "row 1 3 -1 1")
        self.check(Row((GREAT - 1, 1 - GREAT)), "row 0 all 999999999999999 -999999999999999")
        self.check(Row((0, -10), rule=EVERY), "row 0 " + EVERY_WORD + " 0 -10")
        self.check(Row(tuple(range(40)), rule=(40,)), "row 0 40 " + " ".join(str(x) for x in range(40)))

    def test_small_rows_there_and_back(self):
        for row in plain.rows(4, plain.RULES):
            rule = {None: "all", (): "none"}.get(row.rule) or ",".join(str(length) for length in row.rule)
            self.check(row, " ".join(["row", str(row.ends), rule] + [str(x) for x in row.stones]))

    def test_examples(self):
        self.refused(BadText, 4, row_from, "row 3 all 2  1")
        self.refused(BadText, 2, row_from, "row 3 2,2 2 1")
        self.refused(BadText, 3, row_from, "row 3 all")

    def test_the_empty_text_and_spaces(self):
        self.refused(BadText, 0, row_from, "")
        self.refused(BadText, 0, row_from, " ")
        for text in (GOOD, "row 0 all 5"):
            refuses_spaces(self, row_from, text)
            refuses_missing(self, row_from, text, 4)

    def test_first_words(self):
        words = GOOD.split(" ")
        refuses_words(self, row_from, words, 0, ("Row", "ROW", "rows", "ro", "", "ring", "like", "\nrow", "row\t", "0"))

    def test_ends(self):
        words = GOOD.split(" ")
        refuses_words(self, row_from, words, 1, NO_ENDS)
        for ends in plain.ENDS:
            self.assertEqual(row_from("row " + str(ends) + " all 1").ends, ends)

    def test_rules(self):
        refuses_words(self, row_from, GOOD.split(" "), 2, NO_RULES)
        for word, rule in (("2", (2,)), ("40", (40,)), ("2,40", (2, 40)), (EVERY_WORD, EVERY), ("none", ()),
                           ("all", None)):
            self.assertEqual(row_from("row 0 " + word + " 1").rule, rule)

    def test_stones(self):
        words = GOOD.split(" ")
        for i in (3, 4, 6):
            refuses_words(self, row_from, words, i, NO_NUMBERS)
        self.assertEqual(row_from("row 0 all 999999999999999 0 -1").stones, (GREAT - 1, 0, -1))

    def test_a_stone_that_stood_before(self):
        self.refused(BadText, 4, row_from, "row 0 all 5 5")
        self.refused(BadText, 6, row_from, "row 0 all 5 -5 0 -5 x")
        self.refused(BadText, 7, row_from, "row 0 all 1 2 3 4 1 2")

    def test_how_many_stones(self):
        words = ["row", "0", "all"] + [str(x) for x in range(41)]
        self.assertEqual(len(row_from(" ".join(words[:43])).stones), 40)
        self.refused(BadText, 43, row_from, " ".join(words))
        self.refused(BadText, 43, row_from, " ".join(words[:43] + ["0"]))
        self.refused(BadText, 43, row_from, " ".join(words + ["x", ""]))

    def test_names_of_arguments(self):
        self.assertEqual(row_from(text="row 0 all 1").stones, (1,))
        self.assertEqual(row_text(row=Row((1,))), "row 0 all 1")


if __name__ == "__main__":
    unittest.main()
