"""[9.4] to [9.6]: glasses that see two names apart."""

import unittest
from itertools import product
from random import Random

from helpers import NO_SEQUENCES, NO_WHOLES, all_rows, drawn_glasses, error_of, every_glasses, some_rows
from truealarms.apartness import apart_glasses, finest_apart, related_lots, side_sharp
from truealarms.errors import BadPair, BadRow, BadSide, UnlikeStands
from truealarms.families import made_glasses
from truealarms.glasses import Glasses
from truealarms.names import Pair, box_of, boxed_lot, is_box, project_lot, side_row
from truealarms.rows import back_lot
from truealarms.seenends import is_finer
from truealarms.sharpness import unsharp_member

NUMBERS = ((2, 2), (2, 3), (3, 2))


def couples(first, second, step=1):
    return list(product(every_glasses(first), every_glasses(second)))[::step]


class Apart(unittest.TestCase):
    def test_members_are_just_the_boxes(self):
        for first, second in NUMBERS:
            pair = Pair(first, second)
            for one, other in couples(first, second):
                apart = apart_glasses(one, other)
                due = {box_of(pair, a, b) for a in one.members for b in other.members}
                self.assertEqual(apart, Glasses(pair.stands, sorted(due)))
                self.assertEqual(0 in apart, 0 in one or 0 in other)
        self.assertEqual(apart_glasses(other=Glasses(2, (1, 3)), one=Glasses(2, (2, 3))).members, (4, 5, 12, 15))

    def test_how_each_lot_is_rounded(self):
        for first, second in NUMBERS:
            pair = Pair(first, second)
            for one, other in couples(first, second, 3):
                apart = apart_glasses(one, other)
                for lot in range(1 << pair.stands):
                    ends = [one.rounded(project_lot(pair, lot, 0)), other.rounded(project_lot(pair, lot, 1))]
                    self.assertEqual(apart.rounded(lot), box_of(pair, *ends))
                    self.assertEqual(apart.rounded(lot), apart.rounded(boxed_lot(pair, lot)))

    def test_numbers_of_stands_that_make_no_pair(self):
        for first, second in product(range(1, 7), repeat=2):
            due = None
            if first not in (2, 3):
                due = (BadPair, ("first",))
            elif second not in (2, 3):
                due = (BadPair, ("second",))
            elif first == second == 3:
                due = (BadPair, ("both",))
            one, other = made_glasses(first, [0]), made_glasses(second, [0])
            self.assertEqual(error_of(apart_glasses, one, other), due)
            self.assertEqual(error_of(side_sharp, one, other, 0, (1,) * first), due)
            if due:
                self.assertEqual(error_of(side_sharp, one, other, 2, None), due)


class Related(unittest.TestCase):
    def some_glasses(self):
        draw = Random(95)
        found = []
        for first, second in NUMBERS:
            pair = Pair(first, second)
            found += [(pair, apart_glasses(one, other)) for one, other in couples(first, second, 5)]
            found += [(pair, drawn_glasses(draw, pair.stands)) for _ in range(60)]
            for _ in range(30):
                boxes = [boxed_lot(pair, draw.randrange(1 << pair.stands)) for _ in range(4)]
                found.append((pair, made_glasses(pair.stands, boxes)))
        return found

    def test_members_that_are_no_boxes(self):
        for pair, glasses in self.some_glasses():
            related = related_lots(pair, glasses)
            due = [member for member in glasses.members if not is_box(pair, member)]
            self.assertEqual((type(related), list(related)), (tuple, due))
        self.assertEqual(related_lots(glasses=Glasses(4, (0, 6, 9, 15)), pair=Pair(2, 2)), (6, 9))

    def test_the_members_of_the_couple(self):
        for pair, glasses in self.some_glasses():
            found = finest_apart(pair, glasses)
            self.assertEqual((type(found), len(found)), (tuple, 2))
            one, other = found
            self.assertEqual((one.stands, other.stands), (pair.first, pair.second))
            every, rest = one.every, other.every
            self.assertEqual(list(one.members), [a for a in range(every + 1) if box_of(pair, a, rest) in glasses])
            self.assertEqual(list(other.members), [b for b in range(rest + 1) if box_of(pair, every, b) in glasses])

    def test_against_all_couples_of_two_stands_each(self):
        pair = Pair(2, 2)
        draw = Random(96)
        families = [apart_glasses(one, other) for one, other in couples(2, 2)]
        drawn = [drawn_glasses(draw, 4) for _ in range(150)] + every_glasses(4)
        same = 0
        for glasses in families + drawn:
            finest = apart_glasses(*finest_apart(pair, glasses))
            self.assertTrue(is_finer(glasses, finest))
            for apart in families:
                if is_finer(glasses, apart):
                    self.assertTrue(is_finer(finest, apart))
            self.assertEqual(finest == glasses, glasses in families)
            same += finest == glasses
        self.assertGreaterEqual(same, len(families))

    def test_against_couples_of_two_and_three_stands(self):
        draw = Random(97)
        for first, second in NUMBERS[1:]:
            pair = Pair(first, second)
            families = [apart_glasses(one, other) for one, other in couples(first, second)]
            for glasses in [drawn_glasses(draw, 6) for _ in range(15)] + families[::29]:
                finest = apart_glasses(*finest_apart(pair, glasses))
                for apart in families:
                    self.assertTrue(not is_finer(glasses, apart) or is_finer(finest, apart))
                self.assertEqual(finest == glasses, glasses in families)

    def test_unlike_stands(self):
        for first, second in NUMBERS:
            pair = Pair(first, second)
            for stands in range(1, 7):
                due = None if stands == pair.stands else (UnlikeStands, ())
                self.assertEqual(error_of(related_lots, pair, made_glasses(stands, [0])), due)
                self.assertEqual(error_of(finest_apart, pair, made_glasses(stands, [0])), due)


class SideSharp(unittest.TestCase):
    def told(self, mine, others, row):
        """What the document tells of glasses of this name and of the other one."""
        stuck = sum([1 << stand for stand in range(mine.stands) if row[stand] == 0])
        backs = {member: back_lot(row, member) for member in mine.members}
        if stuck == 0:
            return all(back in mine or back == 0 and 0 in others for back in backs.values())
        if stuck == mine.every:
            return True
        if any(member not in (0, others.every) for member in others.members):
            return False
        if any(backs[member] not in mine for member in mine.members if member != 0):
            return False
        return stuck in mine or 0 not in mine and 0 not in others

    def check_row(self, one, other, which, row):
        sharp = side_sharp(one, other, which, row)
        changed = side_row(Pair(one.stands, other.stands), which, row)
        self.assertIs(sharp, unsharp_member(apart_glasses(one, other), changed) is None)
        self.assertIs(sharp, self.told(one, other, row) if which == 0 else self.told(other, one, row))
        return sharp

    def test_all_rows_of_two_stands(self):
        found = set()
        for one, other in couples(2, 2):
            for which in (0, 1):
                for row in all_rows(2):
                    stuck = sum([lot == 0 for lot in row])
                    found.add((self.check_row(one, other, which, row), stuck))
        self.assertEqual(found, {(True, 0), (True, 1), (True, 2), (False, 0), (False, 1)})

    def test_rows_of_three_stands(self):
        draw = Random(98)
        rows = some_rows(3) + [(0, 2, 4), (2, 0, 0), (0, 0, 1)] + [draw.choice(all_rows(3)) for _ in range(10)]
        for first, second in NUMBERS[1:]:
            for one, other in couples(first, second, 3):
                which = 0 if first == 3 else 1
                for row in rows[draw.randrange(3)::3]:
                    self.check_row(one, other, which, row)
                for row in all_rows(2)[draw.randrange(4)::4]:
                    self.check_row(one, other, 1 - which, row)

    def test_lists_and_names(self):
        one, other = Glasses(2, (0, 3)), Glasses(3, (0, 1, 7))
        for row in ([2, 4, 4], (2, 4, 4)):
            self.assertIs(side_sharp(row=row, which=1, other=other, one=one), side_sharp(one, other, 1, (2, 4, 4)))

    def test_errors_in_order(self):
        one, other = Glasses(2, (0, 3)), Glasses(3, (0, 1, 7))
        for which in NO_WHOLES + (2, 3, "1"):
            for row in ((1, 1), None, (1, 1, 1)):
                self.assertEqual(error_of(side_sharp, one, other, which, row), (BadSide, ()), which)
        for row in NO_SEQUENCES + ((1, 1), (1, 1, 1, 1)):
            self.assertEqual(error_of(side_sharp, one, other, 1, row), (BadRow, (None,)), row)
        for lot in NO_WHOLES + (4,):
            self.assertEqual(error_of(side_sharp, one, other, 0, [1, lot]), (BadRow, (1,)), lot)
            self.assertEqual(error_of(side_sharp, one, other, 0, (lot, lot)), (BadRow, (0,)), lot)
        self.assertEqual(error_of(side_sharp, one, other, 1, (1, 4, 8)), (BadRow, (2,)))


if __name__ == "__main__":
    unittest.main()
