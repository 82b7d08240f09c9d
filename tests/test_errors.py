"""The refusals of stallyard.errors."""

import unittest

from stallyard import errors

SEVEN = ("NoSize", "Here", "Full", "NoCart", "NotLaid", "Unlike", "NotRead")


class ErrorsTest(unittest.TestCase):
    def test_yard_error_stands_under_value_error(self):
        self.assertEqual(errors.YardError.__bases__, (ValueError,))

    def test_each_stands_under_yard_error_alone(self):
        for word in SEVEN:
            with self.subTest(word=word):
                one = getattr(errors, word)
                self.assertEqual(one.__name__, word)
                self.assertEqual(one.__bases__, (errors.YardError,))
                self.assertTrue(issubclass(one, ValueError))

    def test_none_of_the_seven_stands_under_another(self):
        for word in SEVEN:
            for other in SEVEN:
                with self.subTest(word=word, other=other):
                    under = issubclass(getattr(errors, word), getattr(errors, other))
                    self.assertEqual(under, word == other)

    def test_each_is_taken_as_yard_error_and_as_value_error(self):
        for word in SEVEN:
            for taken in (errors.YardError, ValueError):
                with self.subTest(word=word, taken=taken), self.assertRaises(taken):
                    raise getattr(errors, word)("refused")


if __name__ == "__main__":
    unittest.main()
