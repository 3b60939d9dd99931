"""Runs, true and seen ones alike, and the least and greatest of some lots."""

import unittest

from truealarms.glasses import Glasses
from truealarms.lots import greatest_of, least_of
from truealarms.runs import steps_met
from truealarms.seenends import rounding_of
from truealarms.steps import Steps

F = ("step", "f")
RIVER = Steps(3, [("f", (2, 4, 4))])


class Runs(unittest.TestCase):
    def test_with_no_rounding(self):
        met = steps_met(RIVER, tuple(range(8)), ("again", F), 1)
        self.assertEqual(met, [((0,), "f", 1, 2), ((1,), "f", 3, 6), ((2,), "f", 7, 6)])

    def test_with_rounding(self):
        rounding = rounding_of(Glasses(3, (0, 1, 4, 7)))
        self.assertEqual(rounding, (0, 1, 7, 7, 4, 7, 7, 7))
        met = steps_met(RIVER, rounding, ("again", F), 1)
        self.assertEqual(met, [((0,), "f", 1, 7), ((1,), "f", 7, 7)])


class Choices(unittest.TestCase):
    def test_least_and_greatest(self):
        self.assertEqual(least_of([1, 3, 6, 7, 4]), (1, 4))
        self.assertEqual(greatest_of([1, 3, 6, 4]), (3, 6))
        self.assertEqual((least_of([]), greatest_of(())), ((), ()))
        self.assertEqual((least_of([5]), greatest_of((5,))), ((5,), (5,)))
        self.assertEqual((least_of(range(8)), greatest_of(range(8))), ((0,), (7,)))


if __name__ == "__main__":
    unittest.main()
