"""[40]: the texts of like rows, rings and papers."""

import unittest

from tests import likeplain, plain, ringplain
from tests.badwords import NO_ENDS, NO_NUMBERS, NO_RULES, refuses_missing, refuses_spaces, refuses_words
from tests.refusing import RefusingTest
from turnedvalleys.errors import BadText
from turnedvalleys.likerows import LikeRow
from turnedvalleys.nopapers import paper_right
from turnedvalleys.othertexts import like_from, like_text, paper_from, paper_text, ring_from, ring_text
from turnedvalleys.rings import Ring

GREAT = 10 ** 15
EVERY = tuple(range(2, 41))
LIKE = "like 3 7 -3 7 0 12"
RING = "ring 2,5,40 7 -3 0 12"


class TestLikeText(RefusingTest):
    def check(self, row, text):
        self.same_kind(like_text(row), text)
        found = like_from(text)
        self.assertIsInstance(found, LikeRow)
        self.assertEqual(likeplain.whole(found), likeplain.whole(row))
        self.assertEqual(like_text(found), text)

    def test_there_and_back(self):
        self.check(LikeRow((7, -3, 7, 0, 12), ends=3), LIKE)
        self.check(LikeRow((5,)), "like 0 5")
        self.check(LikeRow((0,) * 24, ends=1), "like 1" + " 0" * 24)
        self.check(LikeRow((GREAT - 1, 1 - GREAT), ends=2), "like 2 999999999999999 -999999999999999")
        for row in likeplain.like_rows(3):
            self.check(row, " ".join(["like", str(row.ends)] + [str(x) for x in row.stones]))

    def test_empty_and_missing_words(self):
        self.refused(BadText, 0, like_from, "")
        self.refused(BadText, 0, like_from, " ")
        for text in (LIKE, "like 0 5"):
            refuses_spaces(self, like_from, text)
            refuses_missing(self, like_from, text, 3)

    def test_bad_words(self):
        words = LIKE.split(" ")
        refuses_words(self, like_from, words, 0, ("Like", "likes", "lik", "", "row", "ring", "like\n", "3"))
        refuses_words(self, like_from, words, 1, NO_ENDS)
        for i in (2, 3, 6):
            refuses_words(self, like_from, words, i, NO_NUMBERS)
        # A like row has no rule.
        self.refused(BadText, 2, like_from, "like 3 all 2 1")

    def test_how_many_stones(self):
        words = ["like", "0"] + ["5"] * 24
        self.assertEqual(like_from(" ".join(words)).stones, (5,) * 24)
        self.refused(BadText, 26, like_from, " ".join(words + ["5"]))
        self.refused(BadText, 26, like_from, " ".join(words + ["6", "x"]))
        self.refused(BadText, 25, like_from, " ".join(words[:25] + ["x", "5"]))

    def test_names_of_arguments(self):
        self.assertEqual(like_from(text="like 0 1").stones, (1,))
        self.assertEqual(like_text(row=LikeRow((1,))), "like 0 1")


class TestRingText(RefusingTest):
    def check(self, ring, text):
        self.same_kind(ring_text(ring), text)
        found = ring_from(text)
        self.assertIsInstance(found, Ring)
        self.assertEqual(ringplain.whole(found), ringplain.whole(ring))
        self.assertEqual(ring_text(found), text)

    def test_there_and_back(self):
        self.check(Ring((7, -3, 0, 12), rule=(2, 5, 40)), RING)
        self.check(Ring((5, 2)), "ring all 5 2")
        self.check(Ring((5, 2), rule=()), "ring none 5 2")
        self.check(Ring((GREAT - 1, 1 - GREAT), rule=EVERY),
                   "ring " + ",".join(str(length) for length in EVERY) + " 999999999999999 -999999999999999")
        self.check(Ring(tuple(range(40))), "ring all " + " ".join(str(x) for x in range(40)))
        for ring in ringplain.rings(4):
            self.check(ring, " ".join(["ring", "all"] + [str(x) for x in ring.stones]))

    def test_empty_and_missing_words(self):
        self.refused(BadText, 0, ring_from, "")
        self.refused(BadText, 0, ring_from, " ")
        self.refused(BadText, 3, ring_from, "ring none 5")
        for text in (RING, "ring all 5 2"):
            refuses_spaces(self, ring_from, text)
            refuses_missing(self, ring_from, text, 4)

    def test_bad_words(self):
        words = RING.split(" ")
        refuses_words(self, ring_from, words, 0, ("Ring", "rings", "rin", "", "row", "like", "ring\n", "3"))
        refuses_words(self, ring_from, words, 1, NO_RULES)
        for i in (2, 3, 5):
            refuses_words(self, ring_from, words, i, NO_NUMBERS)
        # A ring has no ends.
        self.refused(BadText, 2, ring_from, "ring 3 all 2 1")

    def test_a_stone_that_stood_before(self):
        self.refused(BadText, 3, ring_from, "ring all 5 5")
        self.refused(BadText, 5, ring_from, "ring all 5 -5 0 -5 x")

    def test_how_many_stones(self):
        words = ["ring", "all"] + [str(x) for x in range(41)]
        self.assertEqual(len(ring_from(" ".join(words[:42])).stones), 40)
        self.refused(BadText, 42, ring_from, " ".join(words))
        self.refused(BadText, 42, ring_from, " ".join(words + ["x"]))

    def test_names_of_arguments(self):
        self.assertEqual(ring_from(text="ring all 1 2").stones, (1, 2))
        self.assertEqual(ring_text(ring=Ring((1, 2))), "ring all 1 2")


class TestPaperText(RefusingTest):
    def check(self, paper, text):
        self.same_kind(paper_text(paper), text)
        self.same_kind(paper_from(text), paper)

    def test_there_and_back(self):
        for x in (0, 7, -7, GREAT - 1, 1 - GREAT):
            self.check(("lot", x), "lot " + str(x))
            self.check(("sense", x), "sense " + str(x))
            for y in (x, 0, 12, -12):
                self.check(("order", x, y), "order " + str(x) + " " + str(y))

    def test_papers_that_are_not_right(self):
        row = plain.example()
        for paper in (("lot", 3), ("order", 1, 1), ("sense", 99)):
            self.assertIs(paper_right(row, row, paper), False)
            self.assertEqual(paper_from(paper_text(paper)), paper)

    def test_one_word_too_many(self):
        for text, i in (("lot 5", 2), ("sense -5", 2), ("order 1 2", 3)):
            for word in ("3", "x", "", "lot"):
                self.refused(BadText, i, paper_from, text + " " + word)
                self.refused(BadText, i, paper_from, text + " " + word + " 4")

    def test_missing_words(self):
        self.refused(BadText, 0, paper_from, "")
        self.refused(BadText, 0, paper_from, " ")
        for text, i in (("lot", 1), ("sense", 1), ("order", 1), ("order 1", 2)):
            self.refused(BadText, i, paper_from, text)

    def test_spaces(self):
        for text in ("lot 5", "sense -5", "order 1 2"):
            refuses_spaces(self, paper_from, text)

    def test_bad_words(self):
        for text in ("lot 5", "sense -5", "order 1 2"):
            words = text.split(" ")
            refuses_words(self, paper_from, words, 0, ("Lot", "lots", "", "ORDER", "senses", "row", "none", "5"))
            for i in range(1, len(words)):
                refuses_words(self, paper_from, words, i, NO_NUMBERS)

    def test_names_of_arguments(self):
        self.assertEqual(paper_from(text="lot 1"), ("lot", 1))
        self.assertEqual(paper_text(paper=("lot", 1)), "lot 1")


if __name__ == "__main__":
    unittest.main()
