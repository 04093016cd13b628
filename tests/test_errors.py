"""The classes of refusals."""

import unittest

from quarterfold import errors

NAMES = ("NoFloor NoAddress NoCell NoShape NoTelling NoText NoStep NoBox TooMany OtherFloor "
         "NoTurn NoNumber NoSide NotFull NoWay NoLoop").split()


class Errors(unittest.TestCase):
    def test_floor_error_is_a_value_error(self):
        self.assertTrue(issubclass(errors.FloorError, ValueError))
        self.assertEqual(errors.FloorError.__bases__, (ValueError,))
        self.assertIsInstance(errors.FloorError("why"), ValueError)

    def test_sixteen_classes_straight_under_floor_error(self):
        self.assertEqual(len(set(NAMES)), 16)
        for name in NAMES:
            with self.subTest(name):
                self.assertEqual(getattr(errors, name).__bases__, (errors.FloorError,))

    def test_made_of_a_text_each_is_itself_alone(self):
        for name in NAMES:
            refusal = getattr(errors, name)("why")
            for other in NAMES:
                with self.subTest(name=name, other=other):
                    self.assertEqual(isinstance(refusal, getattr(errors, other)), name == other)
            self.assertIsInstance(refusal, errors.FloorError)
            self.assertIsInstance(refusal, ValueError)
            self.assertEqual(str(refusal), "why")

    def test_each_can_be_raised_and_caught(self):
        for name in NAMES:
            with self.subTest(name), self.assertRaises(errors.FloorError):
                raise getattr(errors, name)("why")


if __name__ == "__main__":
    unittest.main()
