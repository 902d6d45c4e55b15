"""The interface: the classes of apartrow.errors."""

import unittest

from apartrow import errors


class ErrorsTest(unittest.TestCase):
    def test_heap_error_stands_straight_under_value_error(self):
        self.assertEqual(errors.HeapError.__bases__, (ValueError,))

    def test_each_refusal_stands_straight_under_heap_error(self):
        for name in ("BadHeap", "BadNumber", "TooFew", "BadText"):
            with self.subTest(name):
                self.assertEqual(getattr(errors, name).__bases__, (errors.HeapError,))

    def test_refusals_are_raised_and_taken_by_name(self):
        for name in ("HeapError", "BadHeap", "BadNumber", "TooFew", "BadText"):
            with self.subTest(name):
                with self.assertRaises(getattr(errors, name)):
                    raise getattr(errors, name)("words")


if __name__ == "__main__":
    unittest.main()
