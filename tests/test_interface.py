"""[0.1], [0.5]: each name of the interface is defined in its file, with its arguments under their names."""

import importlib
import inspect
import unittest

INTERFACE = {
    "choosing": ("choose(n, k)", "subset_number(size, places)", "subset_at(size, many, number)"),
    "zigzags": ("zigzag(k)",),
    "rows": ("Row(stones, *, ends=0, rule=None)",),
    "lots": ("lot(row, x)", "closers(row, x)"),
    "forests": ("parent(row, x)", "children(row, x)", "above(row, x)", "is_record(row, x)", "heads(row)",
                "free_heads(row)", "held_heads(row)"),
    "stretches": ("stretches(row)", "stretch_of(row, x)", "head_at(row, i, j)"),
    "turning": ("turned(row, x)",),
    "runs": ("walked(row, run)", "trail(row, run)", "trimmed(row, run)", "run_right(one, run, two)", "back(run)"),
    "senses": ("sense(row, x)", "senses(row)"),
    "shapes": ("shape(row)", "shape_right(triples, ends)"),
    "building": ("row_of(triples, bits, *, ends=0, rule=None)",),
    "kin": ("same(one, two)", "dimension(row)", "class_size(row)", "normal(row)"),
    "fewest": ("unlike_heads(one, two)", "fewest(one, two)", "run_to(one, two)"),
    "rounds": ("round_turned(row, together)", "rounds_walked(row, rounds)", "rounds_run(one, two)",
               "fewest_rounds(one, two)"),
    "prices": ("price_of(row, run, prices)", "least_price(one, two, prices)"),
    "orders": ("shortest_count(one, two)", "shortest_at(one, two, k)", "runs_of(one, two, k)", "ball(row)"),
    "middles": ("between(one, mid, two)", "middle(one, two, three)", "meeting_sum(rows, weights)",
                "meeting_row(rows, weights)", "meeting_many(rows, weights)", "hull_size(rows)", "in_hull(rows, row)"),
    "tours": ("tour(row)", "tour_row(row, k)", "tour_number(row, other)"),
    "nopapers": ("paper(one, two)", "paper_right(one, two, paper)"),
    "mending": ("mended(row, run, goal)",),
    "sides": ("side(row, x)", "meets(row, x, y)"),
    "leads": ("leader(row, x)", "order_of(row, x, y)"),
    "wishes": ("wishes_right(row, wishes)", "wishes_count(row, wishes)", "wishes_clash(row, wishes)"),
    "wishrows": ("wishes_fewest(row, wishes)", "wishes_row(row, wishes)", "wishes_first(row, wishes)"),
    "kinds": ("measure(row, kind)",),
    "tallies": ("deltas(row, kind)", "tally(row, kind)", "spread(row, kind)"),
    "nearest": ("fewest_with(row, kind, value)", "run_with(row, kind, value)"),
    "begins": ("begins(row, prefix)",),
    "ranks": ("number_of(row)", "row_at(row, k)"),
    "classcounts": ("class_count(n, *, ends=0, rule=None)",),
    "census": ("census(n, *, ends=0, rule=None)",),
    "classnumbers": ("class_number(row)", "class_at(stones, k, *, ends=0, rule=None)"),
    "highs": ("high(row, least)", "lot_row(row, x)"),
    "growth": ("with_least(row, x, place)", "growths(row)"),
    "joins": ("joined(one, top, two)",),
    "likerows": ("LikeRow(stones, *, ends=0)", "like_stretches(row)"),
    "likedeeds": ("like_turned(row, i, j)", "like_walked(row, run)", "like_run_right(one, run, two)"),
    "likeparts": ("tops(row)", "like_parts(row)"),
    "settling": ("settled(row)", "like_same(one, two)", "like_size(row)"),
    "likefewest": ("like_fewest(one, two)", "like_run(one, two)"),
    "likecounts": ("like_count(counts, *, ends=0)",),
    "coarsening": ("coarse(row, cuts)",),
    "rings": ("Ring(stones, *, rule=None)", "ring_stretches(ring)", "ring_row(ring)", "ring_turned(ring, x)",
              "ring_walked(ring, run)"),
    "ringkin": ("ring_same(one, two)", "ring_fewest(one, two)", "ring_count(n, *, rule=None)"),
    "opening": ("opened(ring, place)",),
    "rowtext": ("row_text(row)", "row_from(text)"),
    "runtext": ("run_text(run)", "run_from(text)"),
    "othertexts": ("like_text(row)", "like_from(text)", "ring_text(ring)", "ring_from(text)", "paper_text(paper)",
                   "paper_from(text)"),
    "house": ("House(row)",),
    "houseasks": ("can(house)", "left(house)", "way(house)", "why(house)"),
    "sayshouse": ("told(house, words)",),
}

# The methods of the classes, which must stand in the class itself.
METHODS = {
    "rows": ("Row", ("place(self, x)",)),
    "house": ("House", ("row(self)", "goal(self)", "deeds(self)", "turn(self, x)", "lay(self, run)",
                        "put(self, x, place)", "take(self, x)", "aim(self, stones)", "undo(self)", "redo(self)")),
}


class TestInterface(unittest.TestCase):
    def test_names_and_arguments(self):
        for file, said in INTERFACE.items():
            module = importlib.import_module("turnedvalleys." + file)
            for words in said:
                with self.subTest(file, words=words):
                    name = words.partition("(")[0]
                    found = getattr(module, name)
                    self.assertEqual(found.__module__, module.__name__)
                    self.assertEqual(name + str(inspect.signature(found)), words)

    def test_methods(self):
        for file, (name, said) in METHODS.items():
            owner = getattr(importlib.import_module("turnedvalleys." + file), name)
            for words in said:
                with self.subTest(name, words=words):
                    method = words.partition("(")[0]
                    self.assertEqual(method + str(inspect.signature(vars(owner)[method])), words)


if __name__ == "__main__":
    unittest.main()
