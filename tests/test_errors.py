import unittest

from chasefloor import errors


class ErrorsTest(unittest.TestCase):
    def test_every_refusal_is_a_chase_error_and_a_value_error(self):
        self.assertEqual(errors.ChaseError.__bases__, (ValueError,))

    def test_each_refusal_stands_straight_under_chase_error(self):
        for kind in (errors.NoFloor, errors.NoStanding, errors.Caught, errors.Free, errors.NoNumber):
            self.assertEqual(kind.__bases__, (errors.ChaseError,))

    def test_the_refusals_bear_their_names(self):
        for name in ("ChaseError", "NoFloor", "NoStanding", "Caught", "Free", "NoNumber"):
            self.assertEqual(getattr(errors, name).__name__, name)
