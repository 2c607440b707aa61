"""Point [4]: the errors."""

import unittest

from leavelots import errors
from tests.values import any_values

PARAMETERS = {
    "InvalidRule": "word",
    "InvalidRoom": "at",
    "InvalidText": "at",
    "InvalidName": "name",
    "InvalidOrder": "at",
    "InvalidPrices": "name",
    "InvalidDrawing": "at",
    "InvalidCommand": None,
    "NoRule": "at",
    "NoOrder": "at",
    "Refused": "name",
}


class Errors(unittest.TestCase):
    def test_base_is_a_value_error(self):
        self.assertEqual(errors.LeaveError.__bases__, (ValueError,))
        self.assertIsInstance(errors.LeaveError(), ValueError)

    def test_each_is_derived_from_the_base_alone(self):
        for word in PARAMETERS:
            with self.subTest(word):
                self.assertEqual(getattr(errors, word).__bases__, (errors.LeaveError,))

    def test_none_is_caught_as_another(self):
        for word, parameter in PARAMETERS.items():
            error = getattr(errors, word)() if parameter is None else getattr(errors, word)("a")
            for other in PARAMETERS:
                with self.subTest(word, other=other):
                    self.assertEqual(isinstance(error, getattr(errors, other)), word == other)

    def test_each_keeps_the_very_value_by_position(self):
        for word, parameter in PARAMETERS.items():
            for value in any_values() if parameter else []:
                with self.subTest(word, value=value):
                    self.assertIs(getattr(getattr(errors, word)(value), parameter), value)

    def test_each_keeps_the_very_value_by_parameter_name(self):
        for word, parameter in PARAMETERS.items():
            if parameter:
                value = ["a"]
                with self.subTest(word):
                    error = getattr(errors, word)(**{parameter: value})
                    value.append("b")
                    self.assertIs(getattr(error, parameter), value)
                    self.assertEqual(getattr(error, parameter), ["a", "b"])

    def test_raised_and_caught_as_the_base(self):
        for word, parameter in PARAMETERS.items():
            with self.subTest(word), self.assertRaises(errors.LeaveError) as caught:
                raise getattr(errors, word)(*([3] if parameter else []))
            if parameter:
                self.assertEqual(getattr(caught.exception, parameter), 3)

    def test_command_error_takes_nothing(self):
        self.assertIsInstance(errors.InvalidCommand(), errors.LeaveError)
        with self.assertRaises(errors.InvalidCommand):
            raise errors.InvalidCommand()


if __name__ == "__main__":
    unittest.main()
