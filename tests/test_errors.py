"""The error classes of the interface."""

import unittest

from helper import UNDER
from slanttiles import errors


class ErrorClasses(unittest.TestCase):
    def test_all_stand_straight_under_tile_error(self):
        self.assertEqual(errors.TileError.__bases__, (ValueError,))
        for name in UNDER:
            self.assertEqual(getattr(errors, name).__bases__, (errors.TileError,), name)

    def test_each_is_made_of_one_value(self):
        for name in ["TileError"] + UNDER:
            for at in [None, 0, 7, "lines", (1, 2), [3], {"a": 1}]:
                error = getattr(errors, name)(at)
                self.assertIs(error.at, at, name)
                self.assertIsInstance(error, ValueError)

    def test_none_is_another_one(self):
        for name in UNDER:
            error = getattr(errors, name)(None)
            like = [other for other in UNDER if isinstance(error, getattr(errors, other))]
            self.assertEqual(like, [name])

    def test_no_value_or_two_are_not_taken(self):
        for name in ["TileError"] + UNDER:
            with self.assertRaises(TypeError):
                getattr(errors, name)()
            with self.assertRaises(TypeError):
                getattr(errors, name)(1, 2)


if __name__ == "__main__":
    unittest.main()
