"""[0.1], [0.6] and [1.3]: glasses."""

import unittest
from itertools import combinations
from unittest.mock import ANY

from helpers import NO_SEQUENCES, NO_WHOLES, error_of
from truealarms.errors import BadGlasses, BadLot, NoMember
from truealarms.families import all_glasses
from truealarms.glasses import Glasses, check_member


def refused(stands, members):
    """The word and the place with which Glasses refuses these."""
    kind, told = error_of(Glasses, stands, members)
    assert kind is BadGlasses
    return told


class Refusals(unittest.TestCase):
    def test_stands(self):
        for stands in NO_WHOLES + (0, 7):
            self.assertEqual(refused(stands, "none"), ("stands", 0), stands)
            self.assertEqual(refused(stands, [1]), ("stands", 0), stands)

    def test_many(self):
        for members in NO_SEQUENCES + ([], ()):
            self.assertEqual(refused(2, members), ("many", 0), members)

    def test_lot(self):
        for lot in NO_WHOLES + (4,):
            self.assertEqual(refused(2, [0, lot, 3]), ("lot", 1), lot)
        self.assertEqual(refused(2, [4]), ("lot", 0))

    def test_order(self):
        self.assertEqual(refused(2, [0, 0, 3]), ("order", 1))
        self.assertEqual(refused(2, [0, 1, 0, 3]), ("order", 2))
        self.assertEqual(refused(2, [3, 3]), ("order", 1))

    def test_all_words_of_a_member_come_ahead_of_the_next_member(self):
        self.assertEqual(refused(2, [1, 0, 9]), ("order", 1))
        self.assertEqual(refused(2, [1, 9, 0]), ("lot", 1))
        self.assertEqual(refused(2, [9, 0]), ("lot", 0))

    def test_all(self):
        self.assertEqual(refused(2, [0]), ("all", 0))
        self.assertEqual(refused(3, [0, 1, 2, 3]), ("all", 0))
        self.assertEqual(refused(3, [1, 2]), ("all", 0))
        self.assertEqual(refused(3, [1, 2, 2]), ("order", 2))

    def test_meet(self):
        self.assertEqual(refused(2, [1, 2, 3]), ("meet", (0, 1)))
        self.assertEqual(refused(3, [0, 1, 3, 6, 7]), ("meet", (2, 3)))
        # 3 meets 5 in 1, and 6 in 2: the first of the two couples is told.
        self.assertEqual(refused(3, [0, 3, 5, 6, 7]), ("meet", (1, 2)))
        self.assertEqual(refused(3, [0, 1, 3, 5, 6, 7]), ("meet", (2, 4)))

    def test_least_couple_against_all_couples(self):
        for size in range(1, 8):
            for members in combinations(range(7), size):
                members += (7,)
                couples = [
                    (i, j) for i, one in enumerate(members) for j, other in enumerate(members)
                    if i < j and one & other not in members]
                expected = (BadGlasses, ("meet", min(couples))) if couples else None
                self.assertEqual(error_of(Glasses, 3, members), expected)


class Attributes(unittest.TestCase):
    def test_attributes_and_properties(self):
        glasses = Glasses(3, [1, 3, 7])
        self.assertEqual((glasses.stands, glasses.members), (3, (1, 3, 7)))
        self.assertEqual((glasses.every, glasses.least, len(glasses)), (7, 1, 3))

    def test_the_only_member_all(self):
        for stands in range(1, 7):
            every = 2 ** stands - 1
            glasses = Glasses(stands, (every,))
            self.assertEqual((glasses.every, glasses.least, len(glasses)), (every, every, 1))
            self.assertEqual([glasses.rounded(lot) for lot in range(every + 1)], [every] * (every + 1))

    def test_all_lots_of_six_stands(self):
        glasses = Glasses(6, list(range(64)))
        self.assertEqual(len(glasses), 64)
        self.assertEqual([glasses.rounded(lot) for lot in range(64)], list(range(64)))

    def test_least_is_within_all_members(self):
        for glasses in all_glasses(3):
            self.assertEqual([m for m in glasses.members if glasses.least & m != glasses.least], [])
            self.assertIn(glasses.least, glasses.members)
            self.assertEqual(glasses.every, 7)

    def test_changes_of_the_list_have_no_effect(self):
        members = [0, 1, 3]
        glasses = Glasses(2, members)
        members[0] = 2
        members.append(9)
        self.assertEqual(glasses.members, (0, 1, 3))


class Rounding(unittest.TestCase):
    def test_rounded_is_the_common_part_of_the_members_above(self):
        for glasses in all_glasses(3):
            for lot in range(8):
                common = 7
                for member in glasses.members:
                    if lot & member == lot:
                        common &= member
                self.assertEqual(glasses.rounded(lot), common)

    def test_no_lots(self):
        glasses = Glasses(2, [0, 3])
        for lot in NO_WHOLES + (4,):
            self.assertEqual(error_of(glasses.rounded, lot), (BadLot, ()), lot)


class Members(unittest.TestCase):
    def test_in(self):
        glasses = Glasses(3, [0, 1, 4, 7])
        self.assertEqual([lot for lot in range(-2, 12) if lot in glasses], [0, 1, 4, 7])
        for thing in NO_WHOLES + (glasses, 1.0, 0.0, ()):
            self.assertIs(thing in glasses, False, thing)

    def test_check_member(self):
        glasses = Glasses(3, [0, 1, 4, 7])
        self.assertEqual([check_member(glasses, lot) for lot in (0, 1, 4, 7)], [0, 1, 4, 7])
        for lot in (2, 3, 5, 6):
            self.assertEqual(error_of(check_member, glasses, lot), (NoMember, ()))
        for lot in NO_WHOLES + (8,):
            self.assertEqual(error_of(check_member, glasses, lot), (BadLot, ()), lot)


class Equality(unittest.TestCase):
    def test_equal_exactly_with_equal_stands_and_members(self):
        family = list(all_glasses(2)) + list(all_glasses(1)) + [Glasses(2, [0, 1, 3]), Glasses(2, (0, 1, 3))]
        for one in family:
            for other in family:
                alike = (one.stands, one.members) == (other.stands, other.members)
                self.assertIs(one == other, alike)
                self.assertIs(one != other, not alike)

    def test_unlike_anything_else(self):
        glasses = Glasses(2, [0, 3])
        for thing in (None, 0, 3, "0 3 of 2", (0, 3), [0, 3], (2, (0, 3)), True, object(), ANY):
            self.assertIs(glasses == thing, False)
            self.assertIs(glasses != thing, True)


if __name__ == "__main__":
    unittest.main()
