"""The refusals of the interface, errors.py."""

import unittest

from gridshares import errors
from tests.common import REFUSALS

NAMES = (
    "NoShare NoBox NoFit NoNumber NoRow NoCell NoChain NoSquare NoFilling NoWalk NoStack NoPile NoWay NoBack NoText NoWord"
)


class Errors(unittest.TestCase):
    def test_grid_error(self):
        self.assertEqual((ValueError,), errors.GridError.__bases__)

    def test_each_stands_directly_under_grid_error(self):
        self.assertEqual(16, len(NAMES.split()))
        for name in NAMES.split():
            self.assertEqual((errors.GridError,), getattr(errors, name).__bases__, name)
            self.assertEqual(name, getattr(errors, name).__name__)

    def test_the_tests_know_all(self):
        self.assertEqual([getattr(errors, name) for name in NAMES.split()], REFUSALS)

    def test_each_is_raised_and_caught(self):
        for refusal in REFUSALS:
            with self.assertRaises(errors.GridError):
                raise refusal("why")
