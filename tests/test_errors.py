"""[0.2]: the errors."""

import unittest

from turnedvalleys import errors

NAMES = """BadSize BadCount BadNumber BadSubset BadStone BadEnds BadRule BadTurn BadStretch BadRun TooMany
BadHead BadShape BadSenses Unlike NotSame BadPrices BadRound BadRows BadWeights TooLarge BadPair BadWish NotKept
BadKind BadPrefix BadPlace BadCuts BadText BadWords NoGoal NothingToUndo NothingToRedo""".split()


class TestErrors(unittest.TestCase):
    def test_refused_stands_under_value_error(self):
        self.assertEqual(errors.Refused.__bases__, (ValueError,))

    def test_each_other_one_stands_right_under_refused_alone(self):
        for name in NAMES:
            with self.subTest(name):
                self.assertEqual(getattr(errors, name).__bases__, (errors.Refused,))

    def test_no_error_is_missing_and_none_is_more(self):
        found = [name for name, value in vars(errors).items() if isinstance(value, type)]
        self.assertEqual(sorted(found), sorted(NAMES + ["Refused"]))
        self.assertEqual(len(NAMES), 33)

    def test_each_is_defined_in_the_file(self):
        for name in NAMES + ["Refused"]:
            self.assertEqual(getattr(errors, name).__module__, "turnedvalleys.errors")

    def test_what_is_kept(self):
        for name in NAMES + ["Refused"]:
            error = getattr(errors, name)
            for what in (0, -5, "ends", (1, 2), (), None, 10 ** 30):
                with self.subTest(name, what=what):
                    self.assertEqual(error(what).what, what)
                    self.assertEqual(error(what=what).what, what)

    def test_each_takes_just_one_argument(self):
        for name in NAMES + ["Refused"]:
            error = getattr(errors, name)
            with self.assertRaises(TypeError):
                error()
            with self.assertRaises(TypeError):
                error(1, 2)


if __name__ == "__main__":
    unittest.main()
