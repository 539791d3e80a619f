"""[0.1], [0.5]: each name of the interface is defined in its file, with its arguments under their names."""

import importlib
import inspect
import unittest

INTERFACE = {
    "choosing": ("choose(n, k)", "subset_number(size, places)", "subset_at(size, many, number)"),
    "zigzags": ("zigzag(k)",),
    "rows": ("Row(stones, *, ends=0, rule=None)",),
    "lots": ("lot(row, x)", "closers(row, x)"),
    "forests": ("parent(row, x)", "children(row, x)", "above(row, x)", "is_record(row, x)", "heads(row)",
                "free_heads(row)", "held_heads(row)"),
    "stretches": ("stretches(row)", "stretch_of(row, x)", "head_at(row, i, j)"),
    "turning": ("turned(row, x)",),
    "runs": ("walked(row, run)", "trail(row, run)", "trimmed(row, run)", "run_right(one, run, two)", "back(run)"),
    "senses": ("sense(row, x)", "senses(row)"),
    "shapes": ("shape(row)", "shape_right(triples, ends)"),
    "building": ("row_of(triples, bits, *, ends=0, rule=None)",),
    "kin": ("same(one, two)", "dimension(row)", "class_size(row)", "normal(row)"),
    "fewest": ("unlike_heads(one, two)", "fewest(one, two)", "run_to(one, two)"),
    "rounds": ("round_turned(row, together)", "rounds_walked(row, rounds)", "rounds_run(one, two)",
               "fewest_rounds(one, two)"),
    "prices": ("price_of(row, run, prices)", "least_price(one, two, prices)"),
    "orders": ("shortest_count(one, two)", "shortest_at(one, two, k)", "runs_of(one, two, k)", "ball(row)"),
}


class TestInterface(unittest.TestCase):
    def test_names_and_arguments(self):
        for file, said in INTERFACE.items():
            module = importlib.import_module("turnedvalleys." + file)
            for words in said:
                with self.subTest(file, words=words):
                    name = words.partition("(")[0]
                    found = getattr(module, name)
                    self.assertEqual(found.__module__, module.__name__)
                    self.assertEqual(name + str(inspect.signature(found)), words)


if __name__ == "__main__":
    unittest.main()
