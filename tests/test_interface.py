"""The interface: each name, in its module, with as many arguments as are written there."""

import importlib
import inspect
import unittest

LISTED = {
    "sets": {"is_set": 2, "is_within": 2, "do_meet": 2, "put_together": 2, "taken_from": 2, "shared_by": 2, "all_sets": 1},
    "families": {"is_family": 1, "void_family": 1, "whole_family": 1, "least_ones": 2, "does_hold": 2},
    "texts": {"set_text": 1, "read_set": 2, "family_lines": 1, "read_family": 1},
    "others": {"is_meeter": 2, "least_within": 2, "other_family": 1, "shortest": 1, "fewest": 1},
    "minors": {"without_place": 2, "kept_at": 2, "small_one": 3, "narrowed": 2},
    "puts": {"beside": 2, "crossed": 2, "doubled": 2, "spread": 2},
    "stepchecker": {"is_deed": 2, "becomes": 2, "lets_steps": 4},
    "stepping": {"steps_for": 3, "behind_steps": 4},
    "dualchecker": {"lets_dual": 3, "does_part": 3, "turned_about": 1},
    "dualing": {"dual_told": 2},
    "weights": {"is_weights": 2, "cost_of": 2, "cheapest": 2, "shortest_by": 2, "cheaper_ones": 3},
    "casechecker": {"lets_cases": 4, "reach_of": 3},
    "casing": {"cases_for": 3},
    "packs": {"is_pack": 3, "size_of": 1, "full_places": 3, "grown_pack": 3, "most_packed": 2},
    "pairchecker": {"lets_pair": 3},
    "pairing": {"pair_told": 2},
    "fractions": {"is_fraction": 1, "fraction_of": 2, "is_below": 2},
    "sharechecker": {"lets_shared": 3},
    "sharing": {"shared_told": 2, "halves_told": 2, "number_of": 1, "whole_part": 1, "cut_of": 2},
    "webs": {"is_web": 1, "ways_family": 3, "cuts_family": 3},
    "lookchecker": {"lets_look": 2},
    "looking": {"look_told": 1},
    "bads": {"named_family": 2},
    "badchecker": {"lets_bad": 2, "bad_weights": 2},
    "badseeking": {"bad_told": 1, "verdict": 1},
    "turning": {"is_order": 2, "order_back": 1, "turned_set": 2, "turned_family": 2, "turned_weights": 2,
                "turned_pack": 2},
    "paperturning": {"turned_dual": 4, "turned_pair": 2, "turned_shared": 2},
}
CLASSES = {("twins", "Twin"): {"__init__": 2, "family": 1, "other": 1, "do": 2, "back": 1, "count": 1},
           ("desk", "Desk"): {"__init__": 2, "say": 2}}


def many_arguments(asked):
    kinds = [argument.kind for argument in inspect.signature(asked).parameters.values()]
    assert all(kind is inspect.Parameter.POSITIONAL_OR_KEYWORD for kind in kinds)
    return len(kinds)


class Interface(unittest.TestCase):
    def test_functions(self):
        for module, names in LISTED.items():
            held = importlib.import_module(f"rivalsets.{module}")
            for name, many in names.items():
                asked = getattr(held, name)
                self.assertEqual(many_arguments(asked), many, name)
                self.assertEqual(asked.__module__, f"rivalsets.{module}")

    def test_classes(self):
        for (module, name), methods in CLASSES.items():
            own = vars(getattr(importlib.import_module(f"rivalsets.{module}"), name))
            for method, many in methods.items():
                self.assertEqual(many_arguments(own[method]), many, method)
