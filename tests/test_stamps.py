"""Point 4: stamps."""

import unittest

from farasnothing.errors import BadDelay, BadStamp
from farasnothing.stamps import ahead_of, is_stamp, later
from tests.checks import Checks
from tests.samples import any_values

GREAT = 10 ** 40
STAMPS = [(0, 0), (2, 0), (4, 7), (GREAT, GREAT + 1)]


def right_stamp(value):
    return type(value) is tuple and len(value) == 2 and all([type(part) is int and part >= 0 for part in value])


class Stamps(Checks, unittest.TestCase):

    def test_the_example(self):
        told = [later((4, 2), 3), later((4, 2), 0), ahead_of((7, 0), 3), ahead_of((7, 1), 3), ahead_of((7, 2), 0),
                ahead_of((2, 0), 3)]
        self.assertEqual(told, [(7, 0), (4, 3), (4, 0), (5, 0), (7, 1), (0, 0)])

    def test_is_stamp(self):
        for value in STAMPS:
            self.assertIs(is_stamp(value), True)
        for value in any_values() + [(0, 1, 2), (0,), [0, 0], (-1, 0), (0, None), ('0', 0)]:
            self.assertIs(is_stamp(value), right_stamp(value))

    def test_later(self):
        self.assertEqual(later((GREAT, GREAT), 0), (GREAT, GREAT + 1))
        self.assertEqual(later((GREAT, 5), GREAT), (2 * GREAT, 0))
        self.assertEqual(later((0, 9), 1), (1, 0))

    def test_ahead_of_is_the_least(self):
        for time in range(6):
            for turn in range(4):
                for delay in range(8):
                    reaching = [(a, b) for a in range(9) for b in range(9) if later((a, b), delay) >= (time, turn)]
                    self.assertEqual(ahead_of((time, turn), delay), min(reaching), (time, turn, delay))

    def test_ahead_of_great_ones(self):
        self.assertEqual(ahead_of((GREAT, GREAT), 0), (GREAT, GREAT - 1))
        self.assertEqual(ahead_of((GREAT, 0), 0), (GREAT, 0))
        self.assertEqual(ahead_of((GREAT, GREAT), GREAT), (1, 0))
        self.assertEqual(ahead_of((GREAT, GREAT), GREAT + 1), (0, 0))
        self.assertEqual(ahead_of((GREAT, GREAT), GREAT + 5), (0, 0))
        self.assertEqual(ahead_of((3, 0), 3), (0, 0))

    def test_named_arguments(self):
        self.assertEqual(later(delay=2, stamp=(1, 1)), (3, 0))
        self.assertEqual(ahead_of(delay=2, stamp=(3, 0)), (1, 0))
        self.assertTrue(is_stamp(value=(0, 0)))

    def test_wrong_arguments(self):
        for act in (later, ahead_of):
            for value in any_values():
                if not right_stamp(value):
                    self.assertRaisesWith(BadStamp, value, act, value, 1)
                    self.assertRaisesWith(BadStamp, value, act, value, -1)
                if type(value) is not int or value < 0:
                    self.assertRaisesWith(BadDelay, value, act, (3, 3), value)


if __name__ == '__main__':
    unittest.main()
