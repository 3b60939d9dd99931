"""[4.1] to [4.6]: sharp steps, blurred lots, and what stays sharp."""

import unittest

from helpers import (
    NO_WHOLES, all_rows, check_result, check_row_errors, error_of, every_glasses, lots_within, some_rows)
from truealarms.errors import BadLot, BadRow, UnlikeStands
from truealarms.families import made_glasses
from truealarms.glasses import Glasses
from truealarms.rows import back_lot, behind_row, joined_row, next_lot
from truealarms.sharpness import (
    Unsharp, blurred_lots, blurring_lot, greatest_blurred, least_sharp, sharp_at, sharp_steps, unsharp_member)
from truealarms.steps import Steps

NARROW = Glasses(3, (0, 1, 4, 7))
RIVER = (2, 4, 4)


def sharp_by_document(glasses, row, lot):
    there = glasses.rounded(next_lot(row, glasses.rounded(lot)))
    return glasses.rounded(next_lot(row, lot)) == there


def cases():
    """Glasses and rows to try: all of two stands, and some of others."""
    found = [(glasses, row) for glasses in every_glasses(2) for row in all_rows(2)]
    for stands in (1, 3, 4, 5, 6):
        rows = some_rows(stands)[::1 + stands // 4]
        found += [(glasses, row) for glasses in every_glasses(stands)[::1 + stands % 2] for row in rows]
    return found


CASES = cases()


class Examples(unittest.TestCase):
    def test_of_the_document(self):
        fault = unsharp_member(NARROW, RIVER)
        self.assertEqual((fault.member, fault.back), (4, 6))
        self.assertIs(sharp_at(NARROW, RIVER, 2), False)
        self.assertIs(sharp_at(NARROW, RIVER, 3), True)
        self.assertEqual(blurred_lots(NARROW, RIVER), (2, 6))
        self.assertEqual(greatest_blurred(NARROW, RIVER), (6,))
        self.assertEqual(least_sharp(NARROW, RIVER, 7), (3, 5))
        self.assertEqual(blurring_lot(NARROW, RIVER, 2), 1)
        self.assertEqual(blurring_lot(NARROW, RIVER, 3), 0)

    def test_rows_may_be_lists(self):
        row = list(RIVER)
        self.assertEqual(unsharp_member(NARROW, row).back, 6)
        self.assertEqual((sharp_at(NARROW, row, 2), blurring_lot(NARROW, row, 2)), (False, 1))
        self.assertEqual((blurred_lots(NARROW, row), greatest_blurred(NARROW, row)), ((2, 6), (6,)))
        self.assertEqual(least_sharp(NARROW, row, 7), (3, 5))
        self.assertEqual(row, [2, 4, 4])

    def test_the_result(self):
        check_result(self, Unsharp, ["member", "back"])
        self.assertIs(type(unsharp_member(NARROW, RIVER)), Unsharp)


class AgainstOneAnother(unittest.TestCase):
    def test_sharp_at(self):
        for glasses, row in CASES:
            for lot in range(glasses.every + 1):
                sharp = sharp_at(glasses, row, lot)
                self.assertIs(sharp, sharp_by_document(glasses, row, lot))
                if lot in glasses:
                    self.assertTrue(sharp)

    def test_sharp_up_to_the_rounded_lot(self):
        for glasses, row in CASES[::3]:
            for lot in range(glasses.every + 1):
                if sharp_at(glasses, row, lot):
                    for other in lots_within(glasses.rounded(lot)):
                        if lot & ~other == 0:
                            self.assertTrue(sharp_at(glasses, row, other))

    def test_blurring_lot(self):
        for glasses, row in CASES:
            for lot in range(glasses.every + 1):
                blurring = blurring_lot(glasses, row, lot)
                member = glasses.rounded(next_lot(row, lot))
                self.assertEqual(blurring, glasses.rounded(lot) & ~back_lot(row, member))
                self.assertIs(blurring == 0, sharp_at(glasses, row, lot))
                blurs = [member for member in glasses.members if lot & ~back_lot(row, member) == 0
                         and glasses.rounded(lot) & ~back_lot(row, member)]
                self.assertEqual(bool(blurs), blurring != 0)
                if blurs:
                    self.assertEqual(blurs[0], member)
                    self.assertTrue(all(member & ~other == 0 for other in blurs))

    def test_unsharp_member(self):
        for glasses, row in CASES:
            backs = [(member, back_lot(row, member)) for member in glasses.members]
            due = [(member, back) for member, back in backs if back not in glasses]
            fault = unsharp_member(glasses, row)
            self.assertEqual(fault is None, due == [])
            self.assertEqual(fault is None, blurred_lots(glasses, row) == ())
            if fault is not None:
                self.assertEqual((fault.member, fault.back), due[0])
                self.assertFalse(sharp_at(glasses, row, fault.back))

    def test_blurred_lots(self):
        for glasses, row in CASES:
            due = [lot for lot in range(glasses.every + 1) if not sharp_by_document(glasses, row, lot)]
            blurred = blurred_lots(glasses, row)
            self.assertEqual((type(blurred), list(blurred)), (tuple, due))
            greatest = [lot for lot in due if not any(lot & ~other == 0 and lot != other for other in due)]
            self.assertEqual(greatest_blurred(glasses, row), tuple(greatest))
            backs = [back_lot(row, member) for member in glasses.members]
            for lot in greatest:
                self.assertIn(lot, backs)
                self.assertNotIn(lot, glasses)
            for back in backs:
                self.assertEqual(back not in glasses, back in due)

    def test_least_sharp(self):
        for glasses, row in CASES[::2]:
            for lot in range(glasses.every + 1):
                alike = [other for other in range(glasses.every + 1)
                         if glasses.rounded(other) == glasses.rounded(lot)]
                sharp = [other for other in alike if sharp_by_document(glasses, row, other)]
                due = [one for one in sharp if not any(two & ~one == 0 and two != one for two in sharp)]
                least = least_sharp(glasses, row, lot)
                self.assertEqual((type(least), list(least)), (tuple, due))
                self.assertTrue(least)
                for other in alike:
                    self.assertEqual(other in sharp, any(one & ~other == 0 for one in least))


class Steady(unittest.TestCase):
    def test_behind_and_joined_stay_sharp(self):
        for stands in (2, 3):
            rows = all_rows(2)[::2] if stands == 2 else some_rows(3)
            for glasses in every_glasses(stands)[::1 if stands == 2 else 4]:
                for one in rows:
                    for other in rows:
                        self.check_two(glasses, one, other)

    def check_two(self, glasses, one, other):
        for lot in range(glasses.every + 1):
            if sharp_at(glasses, one, lot):
                if sharp_at(glasses, other, next_lot(one, lot)):
                    self.assertTrue(sharp_at(glasses, behind_row(one, other), lot))
                if sharp_at(glasses, other, lot):
                    self.assertTrue(sharp_at(glasses, joined_row(one, other), lot))


class Names(unittest.TestCase):
    def test_the_order_of_the_names(self):
        steps = Steps(3, [("z", (2, 2, 2)), ("f", RIVER), ("b", (1, 2, 4)), ("a", (0, 0, 0))])
        self.assertEqual(sharp_steps(NARROW, steps), ("z", "b", "a"))
        self.assertEqual(sharp_steps(made_glasses(3, list(range(8))), steps), ("z", "f", "b", "a"))
        self.assertEqual(sharp_steps(NARROW, Steps(3, [])), ())
        self.assertEqual(sharp_steps(NARROW, Steps(3, [("f", RIVER)])), ())

    def test_against_all_lots(self):
        rows = some_rows(4)
        steps = Steps(4, [(chr(ord("a") + k), row) for k, row in enumerate(rows)])
        for glasses in every_glasses(4):
            due = [name for name, row in zip(steps.names, rows)
                   if all(sharp_by_document(glasses, row, lot) for lot in range(16))]
            self.assertEqual(sharp_steps(glasses, steps), tuple(due))

    def test_unlike_stands(self):
        self.assertEqual(error_of(sharp_steps, NARROW, Steps(2, [])), (UnlikeStands, ()))
        self.assertEqual(error_of(sharp_steps, made_glasses(2, []), Steps(3, [])), (UnlikeStands, ()))


class Errors(unittest.TestCase):
    def test_rows(self):
        for call in (unsharp_member, blurred_lots, greatest_blurred):
            check_row_errors(self, call)
        for call in (sharp_at, blurring_lot, least_sharp):
            check_row_errors(self, call, 1)

    def test_rows_come_before_lots(self):
        for call in (sharp_at, blurring_lot, least_sharp):
            check_row_errors(self, call, "no lot")
            self.assertEqual(error_of(call, NARROW, (1, 8, 1), 8), (BadRow, (1,)))
            for lot in NO_WHOLES + (8,):
                self.assertEqual(error_of(call, NARROW, RIVER, lot), (BadLot, ()), lot)


if __name__ == "__main__":
    unittest.main()
