"""[6.6] to [6.10]: mends."""

import unittest

from helpers import (
    NO_WHOLES, check_result, check_start_errors, error_of, every_glasses, programs_of, some_rows, some_steps)
from truealarms.blurs import all_blurs, first_blur, start_within
from truealarms.errors import BadLot, BadProgram, TooMany, UnlikeStands
from truealarms.exactness import exact_at
from truealarms.families import made_glasses
from truealarms.glasses import Glasses
from truealarms.mends import (
    MendedRun, fewest_added, greatest_mends, mended_glasses, mended_run, single_mends)
from truealarms.rows import next_lot
from truealarms.seenends import is_finer
from truealarms.steps import Steps
from truealarms.trueends import true_run

F = ("step", "f")
G = ("step", "g")
TWICE = ("behind", F, F)
LONG = ("behind", TWICE, ("behind", F, G))
NARROW = Glasses(3, (0, 1, 4, 7))
RIVER = Steps(3, [("f", (2, 4, 4))])
PROGRAMS = [program for size in range(1, 4) for program in programs_of(size)] + [
    ("again", ("behind", F, G)), ("behind", ("again", F), ("either", G, F)),
    ("again", ("either", ("again", F), G)), ("behind", ("behind", F, G), F)]


def added(glasses, *lots):
    """The glasses made of the members and of lots; if the members meet with each lot, this is the same."""
    return made_glasses(glasses.stands, sorted({*glasses.members, *lots}))


def mends_by_trial(glasses, steps, program, lot):
    return [mend for mend in range(glasses.every + 1) if mend not in glasses
            and exact_at(added(glasses, mend), steps, program, lot)]


def couples_by_trial(glasses, steps, program, lot):
    lots = [one for one in range(glasses.every + 1) if one not in glasses]
    for place, one in enumerate(lots):
        for other in lots[place + 1:]:
            if exact_at(added(glasses, one, other), steps, program, lot):
                return (one, other)
    return None


def cases(stands):
    found = []
    for glasses in every_glasses(stands)[::1 + 3 * (stands == 3)]:
        for steps in some_steps(stands)[::4]:
            for program in PROGRAMS[::4] + PROGRAMS[-3:]:
                found += [(glasses, steps, program, lot) for lot in range(0, 1 << stands, 1 + stands // 3)]
    return found


class Added(unittest.TestCase):
    def test_a_member_and_another_lot(self):
        self.assertEqual(mended_glasses(NARROW, 6).members, (0, 1, 4, 6, 7))
        self.assertEqual(mended_glasses(NARROW, 4), NARROW)
        self.assertEqual(mended_glasses(Glasses(3, (3, 7)), 6).members, (2, 3, 6, 7))

    def test_against_made_glasses(self):
        for stands in range(1, 5):
            for glasses in every_glasses(stands):
                for lot in range(1 << stands):
                    mended = mended_glasses(glasses, lot)
                    self.assertEqual(mended, added(glasses, lot))
                    for other in range(1 << stands):
                        rounded = glasses.rounded(other)
                        due = rounded & lot if other & ~lot == 0 else rounded
                        self.assertEqual(mended.rounded(other), due)

    def test_six_stands(self):
        for glasses in every_glasses(6):
            for lot in range(0, 64, 7):
                self.assertEqual(mended_glasses(glasses, lot), added(glasses, lot))

    def test_no_lot(self):
        for lot in NO_WHOLES + (8,):
            self.assertEqual(error_of(mended_glasses, NARROW, lot), (BadLot, ()), lot)


class SingleMends(unittest.TestCase):
    def test_example(self):
        self.assertEqual(single_mends(NARROW, RIVER, TWICE, 1), (2, 6))
        self.assertEqual(greatest_mends(NARROW, RIVER, TWICE, 1), (6,))

    def test_by_trial(self):
        for stands in (1, 2, 3):
            for glasses, steps, program, lot in cases(stands):
                self.check_trial(glasses, steps, program, lot)
        for glasses, steps, program, lot in cases(4)[::5] + cases(5)[::60]:
            self.check_trial(glasses, steps, program, lot)

    def check_trial(self, glasses, steps, program, lot):
        due = mends_by_trial(glasses, steps, program, lot)
        mends = single_mends(glasses, steps, program, lot)
        self.assertEqual((type(mends), list(mends)), (tuple, due))
        greatest = [mend for mend in due if not any(mend & ~other == 0 and mend != other for other in due)]
        self.assertEqual(greatest_mends(glasses, steps, program, lot), tuple(greatest))
        within = start_within(glasses, steps, program, lot)
        if within != glasses.rounded(lot):
            for mend in mends:
                self.assertEqual((lot & ~mend, mend & glasses.rounded(lot) & ~within), (0, 0))

    def test_lots_that_keep_an_exact_program_exact(self):
        self.assertTrue(exact_at(NARROW, RIVER, F, 1))
        self.assertEqual(single_mends(NARROW, RIVER, F, 1), (2, 3, 5, 6))
        # The lots 2 and 6 would make this exact program inexact.
        steps = Steps(3, [("f", (1, 1, 0))])
        self.assertTrue(exact_at(Glasses(3, (7,)), steps, ("again", F), 0))
        self.assertEqual(single_mends(Glasses(3, (7,)), steps, ("again", F), 0), (0, 1, 3, 4, 5))

    def test_mends_of_one_step(self):
        many = 0
        for glasses in every_glasses(3)[::2]:
            for row in some_rows(3):
                steps = Steps(3, [("f", row)])
                for lot in range(8):
                    if not exact_at(glasses, steps, F, lot):
                        within = start_within(glasses, steps, F, lot)
                        due = [mend for mend in range(8) if mend not in glasses
                               and self.is_mend(glasses, row, lot, mend, within)]
                        self.assertEqual(list(single_mends(glasses, steps, F, lot)), due)
                        many += len(due) > 1
        self.assertGreater(many, 50)

    def is_mend(self, glasses, row, lot, mend, within):
        common = mend & glasses.rounded(lot)
        if lot & ~mend or common & ~within:
            return False
        return next_lot(row, lot) & ~mend != 0 or next_lot(row, common) & ~mend == 0

    def test_too_many_comes_last(self):
        six, steps = made_glasses(6, []), Steps(6, [("f", (1,) * 6)])
        five, fewer = made_glasses(5, []), Steps(5, [("f", (1,) * 5)])
        for call in (single_mends, greatest_mends):
            self.assertEqual(error_of(call, six, steps, F, 1), (TooMany, (5,)))
            self.assertEqual(error_of(call, six, steps, F, 64), (BadLot, ()))
            self.assertEqual(error_of(call, six, steps, G, 64), (BadProgram, ("name",)))
            self.assertEqual(error_of(call, six, fewer, G, 64), (UnlikeStands, ()))
            self.assertIsNone(error_of(call, five, fewer, F, 1))
            check_start_errors(self, call)


class FewestAdded(unittest.TestCase):
    def test_example(self):
        self.assertEqual(fewest_added(NARROW, RIVER, TWICE, 1), (2,))
        self.assertEqual(fewest_added(NARROW, RIVER, F, 1), ())

    def test_two_lots_and_none(self):
        steps = Steps(3, [("f", (2, 5, 2)), ("g", (2, 4, 1))])
        self.assertEqual(fewest_added(NARROW, steps, LONG, 1), (2, 5))
        steps = Steps(4, [("f", (14, 15, 2, 2)), ("g", (4, 2, 4, 0))])
        self.assertEqual(fewest_added(Glasses(4, (0, 2, 15)), steps, ("behind", G, F), 5), (4, 5))
        steps = Steps(4, [("f", (1, 4, 1, 2)), ("g", (0, 10, 1, 7))])
        self.assertIsNone(fewest_added(Glasses(4, (14, 15)), steps, LONG, 13))

    def test_by_trial(self):
        found = set()
        for stands in (1, 2, 3):
            for given in cases(stands):
                found.add(self.check_fewest(*given))
        for given in cases(4)[::5]:
            found.add(self.check_fewest(*given))
        steps = Steps(3, [("f", (2, 5, 2)), ("g", (2, 4, 1))])
        for lot in range(8):
            found.add(self.check_fewest(NARROW, steps, LONG, lot))
        steps = Steps(4, [("f", (1, 4, 1, 2)), ("g", (0, 10, 1, 7))])
        for lot in range(16):
            found.add(self.check_fewest(Glasses(4, (14, 15)), steps, LONG, lot))
        self.assertEqual(found, {0, 1, 2, None})

    def check_fewest(self, *given):
        mends = mends_by_trial(*given)
        due = () if exact_at(*given) else (mends[0],) if mends else couples_by_trial(*given)
        fewest = fewest_added(*given)
        self.assertEqual(fewest, due)
        return None if due is None else len(due)

    def test_too_many_comes_last(self):
        five, steps = made_glasses(5, []), Steps(5, [("f", (1,) * 5)])
        self.assertEqual(error_of(fewest_added, five, steps, F, 1), (TooMany, (4,)))
        self.assertEqual(error_of(fewest_added, five, steps, ("nothing",), 1), (TooMany, (4,)))
        self.assertEqual(error_of(fewest_added, five, steps, F, 32), (BadLot, ()))
        self.assertEqual(error_of(fewest_added, five, steps, G, 32), (BadProgram, ("name",)))
        self.assertEqual(error_of(fewest_added, five, Steps(4, []), G, 32), (UnlikeStands, ()))
        self.assertIsNone(error_of(fewest_added, made_glasses(4, []), Steps(4, [("f", (1,) * 4)]), F, 1))
        check_start_errors(self, fewest_added)


class MendedRuns(unittest.TestCase):
    def test_example(self):
        run = mended_run(NARROW, RIVER, TWICE, 1)
        self.assertEqual(run.glasses.members, (0, 1, 4, 6, 7))
        self.assertEqual([(blur.path, blur.name, blur.lot, blur.mend) for blur in run.blurs], [((1,), "f", 2, 6)])
        self.assertEqual((type(run), type(run.blurs)), (MendedRun, tuple))

    def test_no_blur(self):
        run = mended_run(NARROW, RIVER, F, 1)
        self.assertEqual((run.glasses, run.blurs), (NARROW, ()))

    def test_until_there_is_no_blur(self):
        longest = 0
        for stands in (2, 3, 4, 5):
            for glasses, steps, program, lot in cases(stands)[::1 + stands]:
                run = mended_run(glasses, steps, program, lot)
                mended = glasses
                for blur in run.blurs:
                    first = first_blur(mended, steps, program, lot)
                    self.assertEqual(vars(blur), vars(first))
                    mended = added(mended, blur.mend)
                self.assertEqual(run.glasses, mended)
                self.assertIsNone(first_blur(mended, steps, program, lot))
                self.assertTrue(is_finer(mended, glasses))
                self.assertTrue(exact_at(mended, steps, program, lot))
                longest = max(longest, len(run.blurs))
                if 1 <= len(run.blurs) <= 2 and stands <= 4:
                    self.assertLessEqual(len(fewest_added(glasses, steps, program, lot)), len(run.blurs))
        self.assertGreater(longest, 2)

    def test_no_blur_where_all_lots_met_are_members(self):
        for glasses, steps, program, lot in cases(3)[::3]:
            met = [met.lot for met in true_run(steps, program, lot)]
            self.assertEqual(list(all_blurs(added(glasses, *met), steps, program, lot)), [])

    def test_the_result(self):
        check_result(self, MendedRun, ["glasses", "blurs"])

    def test_errors_in_order(self):
        check_start_errors(self, mended_run)


if __name__ == "__main__":
    unittest.main()
