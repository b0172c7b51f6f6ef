"""The interface: its names and arguments stand in the files under which the document lists them."""

import importlib
import inspect
import unittest

INTERFACE = {
    "topups.contents": {
        "is_content": ["thing"], "bottom_of": ["content"], "share_of": ["content", "liquid"],
        "pure_content": ["count", "liquid"], "reduced_content": ["numbers"], "mixed_content": ["contents", "weights"],
    },
    "topups.topping": {
        "topped": ["content", "kept", "liquid"], "topped_row": ["content", "kept", "row"],
        "contents_along": ["content", "kept", "row"], "topped_by": ["content", "keeps", "row"],
    },
}


class InterfaceTest(unittest.TestCase):
    def test_functions(self):
        for place, functions in INTERFACE.items():
            module = importlib.import_module(place)
            for name, arguments in functions.items():
                with self.subTest(place=place, name=name):
                    function = getattr(module, name)
                    self.assertTrue(inspect.isfunction(function))
                    self.assertEqual(function.__module__, place)
                    self.assertEqual(list(inspect.signature(function).parameters), arguments)
