import unittest

from longrounds.errors import LongError
from samples import REFUSALS


class ErrorsTest(unittest.TestCase):
    def test_long_error_stands_right_under_value_error(self):
        self.assertEqual(LongError.__bases__, (ValueError,))

    def test_each_refusal_stands_right_under_long_error(self):
        for refusal in REFUSALS:
            self.assertEqual(refusal.__bases__, (LongError,), refusal)

    def test_no_refusal_stands_under_another_one(self):
        for one in REFUSALS:
            for other in REFUSALS:
                self.assertEqual(issubclass(one, other), one is other, (one, other))

    def test_each_refusal_has_its_name_and_place(self):
        names = ["NoPrime", "NoNumber", "NoProgram", "TooLong", "Lossy", "NoText"]
        self.assertEqual([refusal.__name__ for refusal in REFUSALS], names)
        for refusal in REFUSALS + (LongError,):
            self.assertEqual(refusal.__module__, "longrounds.errors")

    def test_each_refusal_can_be_raised_and_taken(self):
        for refusal in REFUSALS:
            with self.assertRaises(LongError) as taken:
                raise refusal("words")
            self.assertIs(type(taken.exception), refusal)
