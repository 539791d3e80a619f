"""[40]: run_text, run_from."""

import unittest
from itertools import product

from tests.badwords import NO_NUMBERS, refuses_spaces, refuses_words
from tests.refusing import RefusingTest
from turnedvalleys.errors import BadRun, BadText, TooMany
from turnedvalleys.runtext import run_from, run_text

GREAT = 10 ** 15


class TestRunText(RefusingTest):
    def check(self, run, text):
        self.same_kind(run_text(run), text)
        self.same_kind(run_from(text), run)

    def test_there_and_back(self):
        self.check((), "")
        self.check((0,), "0")
        self.check((5, 5, -5, 0, 12), "5 5 -5 0 12")
        self.check((GREAT - 1, 1 - GREAT), "999999999999999 -999999999999999")
        self.check((7,) * 10000, " ".join(["7"] * 10000))

    def test_small_runs_there_and_back(self):
        for many in range(4):
            for run in product((-10, -1, 0, 1, 10), repeat=many):
                self.check(run, " ".join(str(x) for x in run))

    def test_how_many_numbers(self):
        for many in (10001, 20000):
            self.refused(TooMany, many, run_text, (7,) * many)
            self.refused(TooMany, many, run_text, (GREAT,) * many)
            self.refused(BadText, 10000, run_from, " ".join(["7"] * many))
        self.refused(BadText, 10000, run_from, " ".join(["7"] * 10000 + ["x"]))
        self.refused(BadText, 10000, run_from, " ".join(["7"] * 10000) + " ")
        self.refused(BadText, 9999, run_from, " ".join(["7"] * 9999 + ["x", "x"]))

    def test_great_numbers(self):
        for x in (GREAT, -GREAT, 10 ** 30, -10 ** 30):
            for k in (0, 1, 7):
                self.refused(BadRun, k, run_text, (3,) * k + (x, 1, x))

    def test_spaces(self):
        self.refused(BadText, 0, run_from, " ")
        self.refused(BadText, 0, run_from, "  ")
        for text in ("5", "5 -5 0"):
            refuses_spaces(self, run_from, text)

    def test_bad_words(self):
        for i in (0, 1, 2):
            for word in NO_NUMBERS:
                if word or i:
                    changed = ["1", "-2", "3"][:i] + [word] + ["3", "x"]
                    self.refused(BadText, i, run_from, " ".join(changed))
        refuses_words(self, run_from, ["1", "2", "3"], 1, NO_NUMBERS)

    def test_names_of_arguments(self):
        self.assertEqual(run_from(text="1 2"), (1, 2))
        self.assertEqual(run_text(run=(1, 2)), "1 2")


if __name__ == "__main__":
    unittest.main()
