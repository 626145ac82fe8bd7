"""The errors: document point [5]."""

import unittest

from tests import helper
from tickcounts import errors

WITH_VALUE = [
    errors.InvalidNumber, errors.InvalidList, errors.InvalidItem, errors.InvalidShop, errors.InvalidThing,
    errors.InvalidTicks, errors.InvalidStore, errors.InvalidWord, errors.InvalidRule, errors.InvalidText,
    errors.Missing,
]
WITH_NAME = [errors.InvalidName, errors.TakenName, errors.UnknownName]


class TestErrors(unittest.TestCase):
    def test_tick_error_is_derived_from_value_error(self):
        self.assertEqual(errors.TickError.__bases__, (ValueError,))

    def test_each_is_derived_directly_from_tick_error(self):
        for kind in [*WITH_VALUE, *WITH_NAME, errors.NothingToUndo]:
            with self.subTest(kind=kind):
                self.assertEqual(kind.__bases__, (errors.TickError,))
                self.assertIsInstance(kind(), errors.TickError)
                self.assertIsInstance(kind(), ValueError)

    def test_classes_are_unlike(self):
        self.assertEqual(len({*WITH_VALUE, *WITH_NAME, errors.NothingToUndo}), 15)

    def test_names_and_places_of_the_classes(self):
        names = [
            "InvalidNumber", "InvalidList", "InvalidItem", "InvalidShop", "InvalidThing", "InvalidTicks",
            "InvalidStore", "InvalidWord", "InvalidRule", "InvalidText", "Missing", "InvalidName", "TakenName",
            "UnknownName", "NothingToUndo",
        ]
        classes = [*WITH_VALUE, *WITH_NAME, errors.NothingToUndo]
        self.assertEqual([kind.__name__ for kind in classes], names)
        self.assertEqual({kind.__module__ for kind in classes}, {"tickcounts.errors"})

    def test_value_by_position_by_name_and_without(self):
        for kind in WITH_VALUE:
            for value in [*helper.odd_values(), helper.shop()]:
                with self.subTest(kind=kind, value=value):
                    self.assertIs(kind(value).value, value)
                    self.assertIs(kind(value=value).value, value)
            self.assertIsNone(kind().value)
            self.assertFalse(hasattr(kind(1), "name"))

    def test_name_by_position_by_name_and_without(self):
        for kind in WITH_NAME:
            for value in [*helper.odd_values(), helper.shop()]:
                with self.subTest(kind=kind, value=value):
                    self.assertIs(kind(value).name, value)
                    self.assertIs(kind(name=value).name, value)
            self.assertIsNone(kind().name)
            self.assertFalse(hasattr(kind("a"), "value"))

    def test_an_error_holds_the_list_itself(self):
        given = [1]
        error = errors.InvalidList(given)
        given.append(2)
        self.assertEqual(error.value, [1, 2])

    def test_fields_of_one_error_are_its_own(self):
        first, second = errors.InvalidItem(1), errors.InvalidItem(2)
        self.assertEqual((first.value, second.value), (1, 2))

    def test_nothing_to_undo_has_no_field(self):
        error = errors.NothingToUndo()
        self.assertFalse(hasattr(error, "value"))
        self.assertFalse(hasattr(error, "name"))

    def test_each_can_be_raised_and_caught(self):
        for kind in [*WITH_VALUE, *WITH_NAME, errors.NothingToUndo]:
            for base in (kind, errors.TickError, ValueError):
                with self.subTest(kind=kind, base=base):
                    with self.assertRaises(base):
                        raise kind()


if __name__ == "__main__":
    unittest.main()
