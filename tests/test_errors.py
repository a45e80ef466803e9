"""The classes of likesums.errors."""

import unittest

from likesums.errors import BadBoard, BadOrder, NoSize, SumError, TooOpen


class Errors(unittest.TestCase):
    def test_sum_error_is_a_value_error(self):
        self.assertEqual(SumError.__bases__, (ValueError,))

    def test_each_refusal_stands_under_sum_error_alone(self):
        for kind in (BadBoard, BadOrder, NoSize, TooOpen):
            with self.subTest(kind=kind.__name__):
                self.assertEqual(kind.__bases__, (SumError,))

    def test_the_names(self):
        names = [kind.__name__ for kind in (SumError, BadBoard, BadOrder, NoSize, TooOpen)]
        self.assertEqual(names, ["SumError", "BadBoard", "BadOrder", "NoSize", "TooOpen"])

    def test_a_refusal_is_none_of_the_others(self):
        kinds = (BadBoard, BadOrder, NoSize, TooOpen)
        for kind in kinds:
            error = kind("words")
            self.assertEqual([other for other in kinds if isinstance(error, other)], [kind])
