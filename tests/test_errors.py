"""[0.3] and the interface: the refusals of errors.py."""

import unittest

from rowasks import errors

NAMES = ["NoRow", "NoAsk", "TooLate", "Ended", "Unlike", "NoText", "NoNumber", "NoName", "Full", "NoBack"]


class Refusals(unittest.TestCase):
    def test_any_refusal_is_a_value_error(self):
        self.assertTrue(issubclass(errors.AskError, ValueError))

    def test_each_stands_right_below_ask_error(self):
        for name in NAMES:
            with self.subTest(name):
                self.assertEqual(getattr(errors, name).__bases__, (errors.AskError,))

    def test_none_stands_below_another(self):
        for one in NAMES:
            for other in NAMES:
                with self.subTest(one=one, other=other):
                    below = issubclass(getattr(errors, one), getattr(errors, other))
                    self.assertEqual(below, one == other)

    def test_each_can_be_raised_with_words(self):
        for name in NAMES:
            with self.subTest(name), self.assertRaises(errors.AskError) as caught:
                raise getattr(errors, name)("words")
            self.assertEqual(str(caught.exception), "words")


if __name__ == "__main__":
    unittest.main()
