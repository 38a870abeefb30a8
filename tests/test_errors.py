"""The interface of doorwalk/errors.py."""

import unittest

from doorwalk import errors


class Errors(unittest.TestCase):
    def test_walk_error_is_a_value_error(self):
        self.assertEqual(errors.WalkError.__bases__, (ValueError,))

    def test_the_others_stand_straight_under_it(self):
        for name in ("BadTriangle", "BadSmall", "BadDoor", "BadSpot"):
            self.assertEqual(getattr(errors, name).__bases__, (errors.WalkError,), name)

    def test_each_is_defined_there(self):
        for name in ("WalkError", "BadTriangle", "BadSmall", "BadDoor", "BadSpot"):
            self.assertEqual(getattr(errors, name).__module__, "doorwalk.errors", name)
            self.assertEqual(getattr(errors, name).__name__, name)


if __name__ == "__main__":
    unittest.main()
