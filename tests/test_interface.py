"""[0.1], [0.5]: each name of the interface is defined in its file, with its arguments under their names."""

import importlib
import inspect
import unittest

INTERFACE = {
    "choosing": ("choose(n, k)", "subset_number(size, places)", "subset_at(size, many, number)"),
    "zigzags": ("zigzag(k)",),
    "rows": ("Row(stones, *, ends=0, rule=None)",),
    "lots": ("lot(row, x)", "closers(row, x)"),
    "forests": ("parent(row, x)", "children(row, x)", "above(row, x)", "is_record(row, x)", "heads(row)",
                "free_heads(row)", "held_heads(row)"),
    "stretches": ("stretches(row)", "stretch_of(row, x)", "head_at(row, i, j)"),
    "turning": ("turned(row, x)",),
}


class TestInterface(unittest.TestCase):
    def test_names_and_arguments(self):
        for file, said in INTERFACE.items():
            module = importlib.import_module("turnedvalleys." + file)
            for words in said:
                with self.subTest(file, words=words):
                    name = words.partition("(")[0]
                    found = getattr(module, name)
                    self.assertEqual(found.__module__, module.__name__)
                    self.assertEqual(name + str(inspect.signature(found)), words)


if __name__ == "__main__":
    unittest.main()
