"""The refusals: 0.4 and the interface of cubewebs/errors.py."""

import unittest

from cubewebs import errors
from cubewebs.errors import (
    Apart, CubeError, NoCube, NoLine, NoPlace, NoText, NoTie, NoWeb, TooGreat,
)

PLAIN = [NoPlace, NoTie, NoLine, Apart, NoCube]
FIELDED = [NoWeb, NoText, TooGreat]


class ErrorsTest(unittest.TestCase):
    def test_cube_error_is_straight_under_value_error(self):
        self.assertEqual(CubeError.__bases__, (ValueError,))

    def test_each_is_straight_under_cube_error(self):
        for error in PLAIN + FIELDED:
            self.assertEqual(error.__bases__, (CubeError,), error)

    def test_none_is_under_another_one(self):
        for one in PLAIN + FIELDED:
            for other in PLAIN + FIELDED:
                self.assertEqual(issubclass(one, other), one is other)

    def test_each_is_defined_in_this_file_under_its_name(self):
        names = ["CubeError", "NoPlace", "NoTie", "NoLine", "Apart", "NoCube", "NoWeb", "NoText", "TooGreat"]
        for name in names:
            error = getattr(errors, name)
            self.assertEqual((error.__name__, error.__module__), (name, "cubewebs.errors"))

    def test_plain_ones_are_made_of_nothing_and_caught_by_their_class_alone(self):
        for error in PLAIN:
            with self.assertRaises(error):
                raise error()
            with self.assertRaises(CubeError):
                raise error()
            with self.assertRaises(ValueError):
                raise error()

    def test_fields(self):
        self.assertEqual(NoWeb(-1).number, -1)
        self.assertEqual(NoWeb(7).number, 7)
        self.assertEqual(NoText(0).row, 0)
        self.assertEqual(NoText(12).row, 12)
        refusal = TooGreat(9, 8)
        self.assertEqual((refusal.many, refusal.most), (9, 8))

    def test_fields_are_each_objects_own(self):
        one, other = NoWeb(1), NoWeb(2)
        self.assertEqual((one.number, other.number), (1, 2))
        first, second = NoText(3), NoText(4)
        self.assertEqual((first.row, second.row), (3, 4))
        great, greater = TooGreat(13, 12), TooGreat(7, 6)
        self.assertEqual((great.many, great.most, greater.many, greater.most), (13, 12, 7, 6))

    def test_fielded_ones_are_caught_as_cube_errors(self):
        for refusal in [NoWeb(0), NoText(1), TooGreat(9, 8)]:
            with self.assertRaises(CubeError):
                raise refusal


if __name__ == "__main__":
    unittest.main()
