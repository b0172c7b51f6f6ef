"""The interface: its names and arguments stand in the files under which the document lists them."""

import importlib
import inspect
import unittest

from topups import errors, live

INTERFACE = {
    "topups.contents": {
        "is_content": ["thing"], "bottom_of": ["content"], "share_of": ["content", "liquid"],
        "pure_content": ["count", "liquid"], "reduced_content": ["numbers"], "mixed_content": ["contents", "weights"],
    },
    "topups.topping": {
        "topped": ["content", "kept", "liquid"], "topped_row": ["content", "kept", "row"],
        "contents_along": ["content", "kept", "row"], "topped_by": ["content", "keeps", "row"],
    },
    "topups.histories": {
        "history_of": ["content", "kept"], "all_histories": ["content", "kept", "number"],
        "stuck_at": ["content", "kept"], "histories_along": ["content", "keeps"], "is_one_left": ["keeps"],
    },
    "topups.strengths": {
        "strength_of": ["content", "strengths"], "strengths_differ": ["strengths", "kept"],
        "histories_of_strength": ["value", "strengths", "kept", "number"],
        "uses_of_share": ["share", "kept", "number"],
    },
    "topups.menus": {
        "histories_by_menu": ["content", "menu", "number"], "count_by_menu": ["content", "menu", "number"],
    },
    "topups.endless": {
        "limit_of": ["count", "row", "kept"], "limits_along": ["count", "row", "kept"],
        "row_of_limit": ["content", "kept", "number"], "same_limit": ["row", "other"], "root_of": ["row"],
        "distance_after": ["content", "row", "kept", "rounds"],
        "rounds_within": ["content", "row", "kept", "fraction"],
    },
    "topups.reach": {
        "fewest_at_most": ["content", "kept", "liquid", "fraction"],
        "fewest_at_least": ["content", "kept", "liquid", "fraction"],
        "reach_sets": ["kept", "low", "high", "number"],
        "fewest_between": ["content", "kept", "liquid", "low", "high"],
        "shows_between": ["content", "kept", "liquid", "low", "high", "thing"],
    },
    "topups.counts": {
        "count_contents": ["count", "number"], "nth_content": ["count", "kept", "start", "number", "index"],
        "content_index": ["content", "kept", "start", "number"],
        "count_between": ["count", "kept", "start", "number", "liquid", "low", "high"],
    },
    "topups.cups": {
        "to_and_fro": ["first", "second", "cup"], "cups_row": ["pots", "deeds"], "carried": ["cup"],
        "fewest_cups": ["first", "second", "cup", "fraction"],
    },
    "topups.texts": {
        "write_content": ["content"], "read_content": ["text"], "write_row": ["row"], "read_row": ["text"],
        "write_history": ["history"], "read_history": ["text"],
    },
    "topups.session": {"session": ["rows"]},
}
METHODS = {
    "__init__": ["count", "start", "kept"], "top_up": ["liquid"], "pour": ["row"], "keep": ["kept"], "undo": [],
    "mark": [], "undo_to": ["index"], "twin": [], "histories": [], "strength": ["strengths"], "__len__": [],
}
PROPERTIES = ["liquids", "start", "kept", "content", "past"]


class InterfaceTest(unittest.TestCase):
    def test_functions(self):
        for place, functions in INTERFACE.items():
            module = importlib.import_module(place)
            for name, arguments in functions.items():
                with self.subTest(place=place, name=name):
                    function = getattr(module, name)
                    self.assertTrue(inspect.isfunction(function))
                    self.assertEqual(function.__module__, place)
                    self.assertEqual(list(inspect.signature(function).parameters), arguments)

    def test_pot(self):
        self.assertTrue(inspect.isclass(live.Pot))
        self.assertEqual((live.Pot.__module__, live.Pot.__bases__), ("topups.live", (object,)))
        body = vars(live.Pot)
        for name, arguments in METHODS.items():
            with self.subTest(name=name):
                self.assertTrue(inspect.isfunction(body[name]))
                self.assertEqual(list(inspect.signature(body[name]).parameters), ["self", *arguments])
        for name in PROPERTIES:
            with self.subTest(name=name):
                self.assertIsInstance(body[name], property)
                self.assertTrue(hasattr(live.Pot(2, 0, (1, 2)), name))
        self.assertNotIn("__eq__", body)

    def test_errors_stand_in_their_file(self):
        for name, error in vars(errors).items():
            if inspect.isclass(error):
                self.assertEqual(error.__module__, "topups.errors", name)
