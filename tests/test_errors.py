"""The interface: the ten classes of refusals, and how they stand."""

import unittest

from kinlook import errors

NAMES = ["NoMachine", "TooBig", "NoState", "NoDeed", "NoText", "NoFrame", "NoScroll", "NoName", "NoRow"]


class Errors(unittest.TestCase):
    def test_kin_error_is_a_value_error(self):
        self.assertTrue(issubclass(errors.KinError, ValueError))

    def test_each_refusal_stands_under_kin_error(self):
        for name in NAMES:
            with self.subTest(name=name):
                refusal = getattr(errors, name)
                self.assertTrue(issubclass(refusal, errors.KinError))
                self.assertIsNot(refusal, errors.KinError)

    def test_none_stands_under_another_one(self):
        for name in NAMES:
            for other in NAMES:
                if name != other:
                    with self.subTest(name=name, other=other):
                        self.assertFalse(issubclass(getattr(errors, name), getattr(errors, other)))

    def test_each_is_raised_with_free_words(self):
        for name in NAMES + ["KinError"]:
            with self.subTest(name=name):
                with self.assertRaises(ValueError) as caught:
                    raise getattr(errors, name)("some words")
                self.assertEqual(str(caught.exception), "some words")


if __name__ == "__main__":
    unittest.main()
