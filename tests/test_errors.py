import unittest

from mixpots import errors
from helper import NAMES


class ErrorClasses(unittest.TestCase):
    def test_pot_error_stands_under_value_error(self):
        self.assertEqual(errors.PotError.__bases__, (ValueError,))

    def test_each_refusal_stands_straight_under_pot_error(self):
        for name in NAMES:
            with self.subTest(name):
                self.assertEqual(getattr(errors, name).__bases__, (errors.PotError,))

    def test_the_refusals_are_eight_classes_under_their_own_names(self):
        classes = [getattr(errors, name) for name in NAMES]
        self.assertEqual(len(set(classes)), 8)
        self.assertEqual([each.__name__ for each in classes], NAMES)

    def test_each_can_be_raised_and_taken_as_a_pot_error(self):
        for name in NAMES:
            with self.subTest(name), self.assertRaises(errors.PotError):
                raise getattr(errors, name)("words")


if __name__ == "__main__":
    unittest.main()
