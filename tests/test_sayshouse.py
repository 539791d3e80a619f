"""[42]: told."""

import unittest

from tests import plain
from tests.badwords import NO_NUMBERS
from tests.refusing import RefusingTest
from tests.test_house import seen
from turnedvalleys.errors import (
    BadPlace, BadRun, BadSize, BadStone, BadTurn, BadWords, NoGoal, NothingToRedo, NothingToUndo, NotSame, TooMany,
    Unlike,
)
from turnedvalleys.house import House
from turnedvalleys.rows import Row
from turnedvalleys.sayshouse import told

AIM = "aim 7 4 5 1 2 3 9 6 8"
AIMED = (7, 4, 5, 1, 2, 3, 9, 6, 8)
GOOD = ("turn 5", "lay 2,5", "lay .", "put 0 3", "put -7 0", "take 9", AIM, "undo", "redo", "row", "goal", "can",
        "left", "way", "why")
HOUSE_WORDS = ("turn", "lay", "put", "take", "aim", "undo", "redo", "row", "goal", "can", "left", "way", "why")


class ToldTest(RefusingTest):
    def says(self, house, words, answer):
        self.same_kind(told(house, words), answer)

    def house(self):
        """A house in which a deed can be undone and one redone."""
        house = House(plain.example())
        house.aim(AIMED)
        house.turn(3)
        house.turn(2)
        house.undo()
        return house

    def refuses(self, error, what, house, words):
        """The words must be refused, and change nothing, neither what may be redone."""
        was = seen(house)
        self.refused(error, what, told, house, words)
        self.assertEqual(seen(house), was)

    def refuses_words(self, words):
        house = self.house()
        self.refuses(BadWords, words, house, words)
        house.redo()
        self.assertEqual(house.deeds(), (("aim", AIMED), ("turn", 3), ("turn", 2)))


class TestTold(ToldTest):
    def test_deeds(self):
        house = House(plain.example())
        for words, stones, deed in (
                ("turn 5", (7, 4, 5, 2, 1, 3, 9, 6, 8), ("turn", 5)),
                ("lay 2,5", (7, 3, 2, 1, 5, 4, 9, 6, 8), ("lay", (2, 5))),
                ("lay 2", plain.EXAMPLE, ("lay", (2,))),
                ("lay .", plain.EXAMPLE, ("lay", ())),
                ("put -10 9", plain.EXAMPLE + (-10,), ("put", -10, 9)),
                ("put 0 0", (0,) + plain.EXAMPLE + (-10,), ("put", 0, 0)),
                ("take -10", (0,) + plain.EXAMPLE, ("take", -10, 10)),
                ("take 0", plain.EXAMPLE, ("take", 0, 0)),
                (AIM, plain.EXAMPLE, ("aim", AIMED))):
            self.says(house, words, "ok")
            self.assertEqual(house.row().stones, stones)
            self.assertEqual(house.deeds()[-1], deed)
        self.assertEqual(house.goal().stones, AIMED)
        many = len(house.deeds())
        self.says(house, "undo", "ok")
        self.assertEqual(len(house.deeds()), many - 1)
        self.says(house, "redo", "ok")
        self.assertEqual(len(house.deeds()), many)

    def test_row_and_goal(self):
        house = House(Row((2, -1), ends=3, rule=(2, 5)))
        self.says(house, "row", "row 3 2,5 2 -1")
        self.says(house, "goal", "none")
        self.says(house, "aim -1 2", "ok")
        self.says(house, "goal", "row 3 2,5 -1 2")
        self.says(house, "turn 2", "ok")
        self.says(house, "row", "row 3 2,5 -1 2")
        self.says(house, "put 7 2", "ok")
        self.says(house, "goal", "none")

    def test_a_goal_that_comes(self):
        house = House(plain.example())
        self.says(house, AIM, "ok")
        for words, answer in (("can", "yes"), ("left", "2"), ("way", "2,5"), ("why", "none")):
            self.says(house, words, answer)
        self.says(house, "turn 5", "ok")
        for words, answer in (("can", "yes"), ("left", "1"), ("way", "2"), ("why", "none")):
            self.says(house, words, answer)
        self.says(house, "lay " + told(house, "way"), "ok")
        for words, answer in (("can", "yes"), ("left", "0"), ("way", "."), ("why", "none")):
            self.says(house, words, answer)
        self.says(house, "lay " + told(house, "way"), "ok")
        self.assertEqual(house.deeds()[-1], ("lay", ()))

    def test_goals_that_do_not_come(self):
        for row, aim, answer in ((Row((1, 3, 2), ends=3), "aim 3 1 2", "lot 2"), (Row((1, 2)), "aim 2 1", "order 1 2"),
                                 (Row((-1, 2), ends=3, rule=()), "aim 2 -1", "sense 2"),
                                 (Row((-1, -2)), "aim -2 -1", "order -2 -1")):
            house = House(row)
            self.says(house, aim, "ok")
            self.says(house, "can", "no")
            self.says(house, "why", answer)
            self.refuses(NotSame, 1, house, "left")
            self.refuses(NotSame, 1, house, "way")

    def test_a_long_run(self):
        house = House(Row(tuple(range(40)), ends=3))
        self.says(house, "lay " + ",".join(["39"] * 9999), "ok")
        self.assertEqual(house.row().stones, tuple(range(39, -1, -1)))
        self.refuses(TooMany, 10001, house, "lay " + ",".join(["39"] * 10001))

    def test_a_row_of_forty(self):
        house = House(Row(tuple(range(-20, 20))))
        self.says(house, "aim " + " ".join(str(x) for x in range(-20, 20)), "ok")
        self.says(house, "can", "yes")

    def test_names_of_arguments(self):
        self.assertEqual(told(words="goal", house=House(plain.example())), "none")


class TestRefused(ToldTest):
    def test_what_deeds_and_questions_raise(self):
        for error, what, words in (
                (BadTurn, 9, "turn 9"), (BadTurn, -4, "turn -4"), (BadRun, 1, "lay 2,9,2"), (BadRun, 0, "lay 0"),
                (BadStone, 7, "put 7 99"), (BadPlace, 99, "put 0 99"), (BadPlace, 10, "put -1 10"),
                (BadStone, 0, "take 0"), (BadStone, 1, "aim 1 1"), (Unlike, "stones", "aim 1"),
                (Unlike, "stones", "aim 7 3 1 2 5 4 9 6 0"), (BadStone, 9, AIM + " 8"), (Unlike, "stones", AIM + " 10"),
                (BadSize, 41, "aim" + " 1" * 41), (BadPlace, 10 ** 15 - 1, "put 0 999999999999999"),
                (BadStone, 10 ** 15 - 1, "take 999999999999999")):
            self.refuses(error, what, self.house(), words)

    def test_nothing_to_do(self):
        house = House(Row((5,)))
        self.refuses(NothingToUndo, 0, house, "undo")
        self.refuses(NothingToRedo, 0, house, "redo")
        self.refuses(BadSize, 0, house, "take 5")
        for words in ("can", "left", "way", "why"):
            self.refuses(NoGoal, 0, house, words)

    def test_two_hundred_deeds(self):
        house = House(Row((1, 2), ends=3))
        for _ in range(200):
            self.says(house, "turn 2", "ok")
        for words in ("turn 2", "lay .", "put 0 0", "take 1", "aim 1 2"):
            self.refuses(TooMany, 201, house, words)
        self.refuses(BadWords, "turn", house, "turn")
        self.refuses(TooMany, 41, self.forty(), "put 50 0")

    def forty(self):
        return House(Row(tuple(range(40))))


class TestNoWords(ToldTest):
    def test_other_words(self):
        for words in ("", " ", "  ", "x", "turned", "turns 5", "Turn 5", "TURN 5", "tur 5", "laid .", "Row", "rows",
                      "goals", "Can", "why?", "Undo", "REDO", "redo.", "deeds", "look", "5", "ok", "none", "yes", ".",
                      "row\n", "\trow", "undo\t", "can\u00a0", "row 0 all 1 2", "lot 5", "5 turn", "\n"):
            self.refuses_words(words)

    def test_blanks(self):
        for words in GOOD:
            parts = words.split(" ")
            for i in range(len(parts) + 1):
                self.refuses_words(" ".join(parts[:i] + [""] + parts[i:]))

    def test_words_too_many(self):
        for words in GOOD:
            if not words.startswith("aim"):
                for more in ("5", "0", ".", "x", "row", "5 5"):
                    self.refuses_words(words + " " + more)
        self.refuses_words(AIM + " x")

    def test_words_too_few(self):
        for words in ("turn", "lay", "put", "put 0", "take", "aim"):
            self.refuses_words(words)

    def test_wrong_numbers(self):
        for word in NO_NUMBERS:
            for words in ("turn " + word, "take " + word, "put " + word + " 3", "put 0 " + word, "aim " + word,
                          "aim 7 " + word, AIM + " " + word):
                self.refuses_words(words)
            if word not in (".", "1,2"):
                self.refuses_words("lay " + word)
            if word != "1,2":
                self.refuses_words("lay 2," + word)
                self.refuses_words("lay " + word + ",2")
        self.refuses_words("put 0 -3")
        self.refuses_words("put 0 -0")

    def test_commas_and_points(self):
        for word in (",", "2,", ",2", "2,,5", ",2,5", "2,5,", ".,2", "2,.", "..", "2.5", "2;5", "2, 5", "2 ,5", "()",
                     "(2,5)", "2 5", ". 2", "none"):
            self.refuses_words("lay " + word)
        for words in ("turn 2,5", "turn .", "take 2,3", "aim 7,3,1,2,5,4,9,6,8", "aim .", "put 0,3", "put 0 ."):
            self.refuses_words(words)

    def test_each_word_alone_with_other_sizes_of_letters(self):
        for word in HOUSE_WORDS:
            for changed in (word.upper(), word.title(), word + "s", word[:-1], word[1:]):
                self.refuses_words(changed)
                self.refuses_words(changed + " 5")


if __name__ == "__main__":
    unittest.main()
