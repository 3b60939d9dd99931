"""[0.5] and [1.1]: sequences and whole numbers."""

import unittest

from helpers import NO_SEQUENCES
from truealarms.wholes import is_sequence, is_whole


class Sequences(unittest.TestCase):
    def test_lists_and_tuples(self):
        for thing in ([], (), [1], (1, "a"), [[]], ((),)):
            self.assertIs(is_sequence(thing), True)

    def test_nothing_else(self):
        for thing in NO_SEQUENCES:
            self.assertIs(is_sequence(thing), False, thing)


class Wholes(unittest.TestCase):
    def test_no_limits(self):
        for thing in (0, 1, -1, 10 ** 30, -10 ** 30):
            self.assertIs(is_whole(thing), True)
            self.assertIs(is_whole(thing, None, None), True)

    def test_no_whole_numbers(self):
        for thing in (True, False, None, "", "1", 1.0, 0.0, [], (1,), b"1", {}, object()):
            self.assertIs(is_whole(thing), False, thing)
            self.assertIs(is_whole(thing, 0, 1), False, thing)

    def test_limits_count_as_in(self):
        self.assertEqual([n for n in range(-3, 9) if is_whole(n, 2, 5)], [2, 3, 4, 5])
        self.assertEqual([n for n in range(-3, 3) if is_whole(n, 0)], [0, 1, 2])
        self.assertEqual([n for n in range(-3, 3) if is_whole(n, high=0)], [-3, -2, -1, 0])
        self.assertEqual([n for n in range(-3, 3) if is_whole(n, low=-1, high=None)], [-1, 0, 1, 2])


if __name__ == "__main__":
    unittest.main()
