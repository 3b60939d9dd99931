"""[1.4]: glasses made of lots, needed members, all glasses."""

import unittest
from inspect import isgeneratorfunction
from itertools import combinations

from helpers import NO_SEQUENCES, NO_WHOLES, error_of
from truealarms.errors import BadLot, BadStands, TooMany
from truealarms.families import all_glasses, glasses_number, made_glasses, needed_members
from truealarms.glasses import Glasses


def brute_members(v):
    """The members of all glasses of v stands, ascending, found by trying all sets of lots."""
    every = 2 ** v - 1
    found = []
    for size in range(every + 1):
        for lots in combinations(range(every), size):
            members = lots + (every,)
            if all(one & other in members for one in members for other in members):
                found.append(members)
    return sorted(found)


class Made(unittest.TestCase):
    def test_example(self):
        glasses = made_glasses(3, [1, 4, 6])
        self.assertEqual((glasses.members, glasses.rounded(2), glasses.least), ((0, 1, 4, 6, 7), 6, 0))
        self.assertEqual(needed_members(glasses), (1, 4, 6))

    def test_no_lots_and_all_lots(self):
        self.assertEqual(made_glasses(3, []).members, (7,))
        self.assertEqual(made_glasses(3, (7, 7)).members, (7,))
        self.assertEqual(made_glasses(3, [6, 5, 3]).members, tuple(range(8)))
        self.assertEqual(made_glasses(6, list(range(64))).members, tuple(range(64)))
        self.assertEqual(made_glasses(2, [1] * 64), Glasses(2, [1, 3]))

    def test_the_least_glasses_with_these_lots(self):
        family = list(all_glasses(3))
        for size in range(5):
            for lots in combinations(range(8), size):
                made = made_glasses(3, lots[::-1])
                above = [g for g in family if all(lot in g for lot in lots)]
                self.assertIn(made, above)
                for glasses in above:
                    self.assertLessEqual(set(made.members), set(glasses.members))

    def test_refusals(self):
        for v in NO_WHOLES + (0, 7):
            self.assertEqual(error_of(made_glasses, v, "none"), (BadStands, ()), v)
        for lots in NO_SEQUENCES + ([0] * 65, [4], [0, True]):
            self.assertEqual(error_of(made_glasses, 2, lots), (BadLot, ()), lots)


class Needed(unittest.TestCase):
    def test_made_of_these_the_glasses_come_back(self):
        for v in (1, 2, 3):
            for glasses in all_glasses(v):
                needed = needed_members(glasses)
                self.assertIs(type(needed), tuple)
                self.assertEqual(needed, tuple(sorted(set(needed))))
                self.assertEqual(made_glasses(v, needed), glasses)
                for lot in needed:
                    self.assertNotEqual(lot, glasses.every)
                    self.assertNotEqual(made_glasses(v, [m for m in glasses.members if m != lot]), glasses)

    def test_all_alone_needs_none(self):
        self.assertEqual(needed_members(Glasses(3, [7])), ())
        self.assertEqual(needed_members(Glasses(3, [0, 7])), (0,))
        self.assertEqual(needed_members(Glasses(3, list(range(8)))), (3, 5, 6))


class Families(unittest.TestCase):
    def test_all_glasses_in_order(self):
        for v in (1, 2, 3):
            family = list(all_glasses(v))
            self.assertEqual([g.stands for g in family], [v] * len(family))
            self.assertEqual([g.members for g in family], brute_members(v))
            self.assertEqual(glasses_number(v), len(family))

    def test_numbers(self):
        self.assertEqual([glasses_number(v) for v in (1, 2, 3, 4)], [2, 7, 61, 2480])

    def test_first_glasses_of_two_stands(self):
        told = [(0, 1, 2, 3), (0, 1, 3), (0, 2, 3), (0, 3), (1, 3), (2, 3), (3,)]
        self.assertEqual([g.members for g in all_glasses(2)], told)

    def test_a_generator(self):
        self.assertTrue(isgeneratorfunction(all_glasses))

    def test_refusals(self):
        for v in NO_WHOLES + (0, 7):
            self.assertEqual(error_of(list_of_glasses, v), (BadStands, ()), v)
            self.assertEqual(error_of(glasses_number, v), (BadStands, ()), v)
        for v in (4, 5, 6):
            self.assertEqual(error_of(list_of_glasses, v), (TooMany, (3,)))
        for v in (5, 6):
            self.assertEqual(error_of(glasses_number, v), (TooMany, (4,)))


def list_of_glasses(v):
    return list(all_glasses(v))


if __name__ == "__main__":
    unittest.main()
