"""The interface: its names and arguments stand in the files under which the document lists them."""

import importlib
import inspect
import unittest

INTERFACE = {
    "topups.contents": {
        "is_content": ["thing"], "bottom_of": ["content"], "share_of": ["content", "liquid"],
        "pure_content": ["count", "liquid"], "reduced_content": ["numbers"], "mixed_content": ["contents", "weights"],
    },
    "topups.topping": {
        "topped": ["content", "kept", "liquid"], "topped_row": ["content", "kept", "row"],
        "contents_along": ["content", "kept", "row"], "topped_by": ["content", "keeps", "row"],
    },
    "topups.histories": {
        "history_of": ["content", "kept"], "all_histories": ["content", "kept", "number"],
        "stuck_at": ["content", "kept"], "histories_along": ["content", "keeps"], "is_one_left": ["keeps"],
    },
    "topups.strengths": {
        "strength_of": ["content", "strengths"], "strengths_differ": ["strengths", "kept"],
        "histories_of_strength": ["value", "strengths", "kept", "number"],
        "uses_of_share": ["share", "kept", "number"],
    },
    "topups.menus": {
        "histories_by_menu": ["content", "menu", "number"], "count_by_menu": ["content", "menu", "number"],
    },
    "topups.endless": {
        "limit_of": ["count", "row", "kept"], "limits_along": ["count", "row", "kept"],
        "row_of_limit": ["content", "kept", "number"], "same_limit": ["row", "other"], "root_of": ["row"],
        "distance_after": ["content", "row", "kept", "rounds"],
        "rounds_within": ["content", "row", "kept", "fraction"],
    },
    "topups.reach": {
        "fewest_at_most": ["content", "kept", "liquid", "fraction"],
        "fewest_at_least": ["content", "kept", "liquid", "fraction"],
        "reach_sets": ["kept", "low", "high", "number"],
        "fewest_between": ["content", "kept", "liquid", "low", "high"],
        "shows_between": ["content", "kept", "liquid", "low", "high", "thing"],
    },
    "topups.counts": {
        "count_contents": ["count", "number"], "nth_content": ["count", "kept", "start", "number", "index"],
        "content_index": ["content", "kept", "start", "number"],
        "count_between": ["count", "kept", "start", "number", "liquid", "low", "high"],
    },
}


class InterfaceTest(unittest.TestCase):
    def test_functions(self):
        for place, functions in INTERFACE.items():
            module = importlib.import_module(place)
            for name, arguments in functions.items():
                with self.subTest(place=place, name=name):
                    function = getattr(module, name)
                    self.assertTrue(inspect.isfunction(function))
                    self.assertEqual(function.__module__, place)
                    self.assertEqual(list(inspect.signature(function).parameters), arguments)
