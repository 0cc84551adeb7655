"""The interface, turnrow/errors.py: the classes of refusals."""

import unittest

from turnrow import errors

NAMES = ("BadRow", "NoTurn", "NoWord", "NoSuch", "NoText")


class ErrorClasses(unittest.TestCase):
    def test_turn_error_is_under_value_error(self):
        self.assertTrue(issubclass(errors.TurnError, ValueError))
        self.assertIsNot(errors.TurnError, ValueError)

    def test_each_refusal_is_under_turn_error(self):
        for name in NAMES:
            with self.subTest(name=name):
                refusal = getattr(errors, name)
                self.assertTrue(issubclass(refusal, errors.TurnError))
                self.assertIsNot(refusal, errors.TurnError)

    def test_no_refusal_is_under_another(self):
        for name in NAMES:
            for other in NAMES:
                if name != other:
                    with self.subTest(name=name, other=other):
                        self.assertFalse(issubclass(getattr(errors, name), getattr(errors, other)))

    def test_classes_bear_their_names(self):
        for name in NAMES + ("TurnError",):
            self.assertEqual(getattr(errors, name).__name__, name)

    def test_each_is_raised_and_taken_as_turn_error_and_value_error(self):
        for name in NAMES:
            for above in (errors.TurnError, ValueError):
                with self.subTest(name=name, above=above):
                    with self.assertRaises(above):
                        raise getattr(errors, name)("words")


if __name__ == "__main__":
    unittest.main()
