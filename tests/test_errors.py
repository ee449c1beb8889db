"""The errors: their places, their values ([6] and the interface)."""

import unittest

from ridesonce import errors

VALUES = {
    "BadName": ("name",), "Duplicate": ("name",), "UnknownStation": ("name",), "UnknownRide": ("name",),
    "SameEnds": ("name",), "NotKept": ("name",), "CannotGo": ("name",), "OnRoad": ("name",),
    "OpenBorder": ("name",), "BadStanding": ("name",), "BadNumber": ("number",), "TooLarge": ("count",),
    "BadLine": ("line",), "NoSuchRow": ("index",), "NotFair": ("station", "end"), "Refused": ("word",),
    "BadWord": ("word",), "BadCommand": ("command",), "NothingToUndo": (), "NothingToRedo": (), "NoOrder": (),
    "NoNote": (), "NotLeft": (), "OtherBorder": (),
}


class ErrorsTest(unittest.TestCase):
    def test_there_are_exactly_these(self):
        found = {name for name, thing in vars(errors).items() if isinstance(thing, type)}
        self.assertEqual(found, set(VALUES) | {"RidesError"})
        self.assertEqual(len(VALUES), 24)

    def test_base_class_is_a_value_error(self):
        self.assertEqual(errors.RidesError.__bases__, (ValueError,))

    def test_each_is_directly_under_the_base_class(self):
        for name in VALUES:
            with self.subTest(name):
                self.assertEqual(getattr(errors, name).__bases__, (errors.RidesError,))

    def test_each_is_defined_in_the_file(self):
        for name in VALUES:
            self.assertEqual(getattr(errors, name).__module__, "ridesonce.errors")

    def test_values_are_passed_by_position_and_held(self):
        for name, attributes in VALUES.items():
            with self.subTest(name):
                values = tuple(f"value{at}" for at in range(len(attributes)))
                error = getattr(errors, name)(*values)
                self.assertEqual(vars(error), dict(zip(attributes, values)))

    def test_no_other_number_of_values(self):
        for name, attributes in VALUES.items():
            with self.subTest(name):
                if attributes:
                    self.assertRaises(TypeError, getattr(errors, name))
                    self.assertRaises(TypeError, getattr(errors, name), *range(len(attributes) + 1))

    def test_each_can_be_caught_as_a_value_error(self):
        for name, attributes in VALUES.items():
            with self.assertRaises(ValueError):
                raise getattr(errors, name)(*attributes)


if __name__ == "__main__":
    unittest.main()
