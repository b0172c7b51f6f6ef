"""Promise [5]: the errors."""

import inspect
import unittest

from topups import errors
from topups.errors import InvalidText, PotError

WITH_ONE_STRING = [
    "InvalidContent", "InvalidPots", "InvalidNumbers", "InvalidKept", "InvalidRow", "InvalidStrengths",
    "InvalidFraction", "InvalidCup", "InvalidDeeds", "InvalidLiquid", "InvalidIndex", "InvalidNumber", "TooMany",
    "NothingToUndo",
]


class ErrorsTest(unittest.TestCase):
    def test_each_is_made_with_one_string(self):
        for name in ["PotError"] + WITH_ONE_STRING:
            with self.subTest(name=name):
                error = getattr(errors, name)("some words")
                self.assertEqual(str(error), "some words")
                self.assertIsInstance(error, PotError)
                self.assertIsInstance(error, ValueError)

    def test_each_is_a_direct_subclass(self):
        self.assertEqual(PotError.__bases__, (ValueError,))
        for name in WITH_ONE_STRING + ["InvalidText"]:
            with self.subTest(name=name):
                self.assertEqual(getattr(errors, name).__bases__, (PotError,))

    def test_none_is_a_subclass_of_another_one(self):
        classes = [getattr(errors, name) for name in WITH_ONE_STRING + ["InvalidText"]]
        for one in classes:
            self.assertEqual([other for other in classes if issubclass(one, other)], [one])

    def test_each_is_caught_by_its_own_name_alone(self):
        for name in WITH_ONE_STRING:
            for other in WITH_ONE_STRING:
                if other != name:
                    self.assertNotIsInstance(getattr(errors, name)("words"), getattr(errors, other))

    def test_no_other_class_is_defined(self):
        found = [name for name, _ in inspect.getmembers(errors, inspect.isclass)]
        self.assertEqual(sorted(found), sorted(["PotError", "InvalidText"] + WITH_ONE_STRING))

    def test_invalid_text_keeps_its_place(self):
        for place in (0, 1, 7, 8000):
            with self.subTest(place=place):
                self.assertEqual(InvalidText(place).place, place)
                self.assertEqual(InvalidText(place=place).place, place)
                self.assertEqual(vars(InvalidText(place)), {"place": place})

    def test_invalid_text_is_raised_as_the_others_are(self):
        for kind in (InvalidText, PotError, ValueError):
            with self.assertRaises(kind) as caught:
                raise InvalidText(place=3)
            self.assertEqual(caught.exception.place, 3)

    def test_invalid_text_needs_its_place(self):
        self.assertRaises(TypeError, InvalidText)
        self.assertRaises(TypeError, InvalidText, 1, 2)
