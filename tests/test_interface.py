"""The part "The interface": all names are there, take so many arguments, and stand where they are listed."""

import inspect
import unittest
from importlib import import_module

from pointedties.kept import Kept

FILES = {
    "webs": {"is_web": 1, "tied": 3, "gaps_of": 1, "part_of": 2, "renumbered": 2, "put_for": 3},
    "pointings": {"is_pointing": 2, "is_led": 2, "first_break": 2, "turned_about": 1, "by_row": 2, "row_by": 2},
    "forcings": {"forced": 2, "class_of": 2, "classes": 1, "bundles": 1, "forcing_way": 3},
    "waycheck": {"shows_way": 4, "shows_round": 2},
    "leading": {"pointed": 1, "can_be_pointed": 1, "settled": 2, "extended": 2},
    "ways": {"count_ways": 1, "all_ways": 1, "common_to": 2},
    "modules": {"is_module": 2, "least_module": 2, "parts_of": 1, "places_in": 1, "shape_of": 2},
    "modulecheck": {"shows_parts": 2},
    "orders": {"heights": 2, "longest_chain": 2, "lots_by": 2, "widest": 2},
    "ordercheck": {"shows_longest": 3, "shows_widest": 3},
    "webfew": {"greatest_tied": 1, "fewest_groups": 1, "greatest_untied": 1, "is_shared": 1},
    "stretches": {"apart_web": 1, "apart_pointing": 1, "stretches_for": 1},
    "rows": {"crossed_web": 2, "crossed_pointing": 2, "crossings": 2},
    "tworows": {"two_rows": 1, "shows_rows": 2, "most_apart": 1},
    "turning": {"with_turn": 3, "may_turn": 2, "turns": 3, "many_turns": 3},
    "turncheck": {"shows_turns": 4},
    "sheet": {"run": 1},
    "weighed": {"weighed_heights": 3, "heaviest_chain": 3, "weighed_lots": 3},
    "weighcheck": {"shows_weighed": 4},
    "allrows": {"count_rows": 2, "row_at": 3, "number_of_row": 3, "often_ahead": 4},
}
METHODS = {
    "put_place": 0, "put_tie": 2, "cut_tie": 2, "web_now": 0, "pointing_now": 0, "classes_now": 0, "count_now": 0,
    "undo": 0,
}


class InterfaceTest(unittest.TestCase):
    def test_functions(self):
        for file, functions in FILES.items():
            module = import_module(f"pointedties.{file}")
            for name, many in functions.items():
                function = getattr(module, name)
                self.assertEqual(function.__module__, module.__name__, name)
                self.assertEqual(len(inspect.signature(function).parameters), many, name)

    def test_methods_stand_in_the_class_itself(self):
        self.assertEqual(len(inspect.signature(Kept).parameters), 1)
        for name, many in METHODS.items():
            self.assertIn(name, vars(Kept))
            self.assertEqual(len(inspect.signature(getattr(Kept(0), name)).parameters), many, name)


if __name__ == "__main__":
    unittest.main()
