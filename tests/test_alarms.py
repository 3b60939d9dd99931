"""[6.1] to [6.3]: alarms."""

import unittest

from helpers import (
    NO_WHOLES, check_program_errors, check_start_errors, error_of, every_glasses, lots_within, programs_of,
    some_steps)
from truealarms.alarms import alarm_of, false_wishes, starts_exact
from truealarms.errors import BadLot, BadProgram, NoMember, UnlikeStands
from truealarms.exactness import exact_at
from truealarms.families import made_glasses
from truealarms.glasses import Glasses
from truealarms.seenends import is_finer, seen_end
from truealarms.steps import Steps
from truealarms.trueends import true_end

F = ("step", "f")
G = ("step", "g")
TWICE = ("behind", F, F)
NARROW = Glasses(3, (0, 1, 4, 7))
RIVER = Steps(3, [("f", (2, 4, 4))])
PROGRAMS = [program for size in range(1, 4) for program in programs_of(size)] + [
    ("again", ("behind", F, G)), ("behind", ("again", F), ("either", G, F))]


def cases():
    found = []
    for stands in (1, 2, 3, 4):
        for glasses in every_glasses(stands)[::1 + 3 * (stands == 3)]:
            for steps in some_steps(stands)[::3]:
                found += [(glasses, steps, program) for program in PROGRAMS[::2]]
    return found


CASES = cases()


class Words(unittest.TestCase):
    def test_example(self):
        words = [alarm_of(NARROW, RIVER, TWICE, 1, wish) for wish in NARROW.members]
        self.assertEqual(words, ["true", "true", "false", "none"])
        self.assertEqual(false_wishes(NARROW, RIVER, TWICE, 1), (4,))
        self.assertEqual(starts_exact(NARROW, RIVER, TWICE), (0, 4))

    def test_all_members_as_wishes(self):
        found = set()
        for glasses, steps, program in CASES:
            for lot in range(glasses.every + 1):
                seen, end = seen_end(glasses, steps, program, lot), true_end(steps, program, lot)
                for wish in glasses.members:
                    due = "none" if seen & ~wish == 0 else "true" if end & ~wish else "false"
                    self.assertEqual(alarm_of(glasses, steps, program, lot, wish), due)
                    found.add(due)
        self.assertEqual(found, {"none", "true", "false"})

    def test_none_is_kept_in_finer_glasses(self):
        families = every_glasses(3)[::2]
        for steps in some_steps(3)[::4]:
            for program in PROGRAMS[::5]:
                for lot in (0, 1, 6):
                    for coarse in families[::3]:
                        silent = [wish for wish in coarse.members
                                  if alarm_of(coarse, steps, program, lot, wish) == "none"]
                        for fine in families:
                            if is_finer(fine, coarse):
                                words = [alarm_of(fine, steps, program, lot, wish) for wish in silent]
                                self.assertEqual(words, ["none"] * len(silent))

    def test_errors_in_order(self):
        check_start_errors(self, alarm_of, "no wish")
        for wish in NO_WHOLES + (8,):
            self.assertEqual(error_of(alarm_of, NARROW, RIVER, F, 1, wish), (BadLot, ()), wish)
        for wish in (2, 3, 5, 6):
            self.assertEqual(error_of(alarm_of, NARROW, RIVER, F, 1, wish), (NoMember, ()), wish)
        self.assertEqual(error_of(alarm_of, NARROW, RIVER, F, 8, 2), (BadLot, ()))
        self.assertEqual(error_of(alarm_of, NARROW, RIVER, G, 8, 2), (BadProgram, ("name",)))
        self.assertEqual(error_of(alarm_of, made_glasses(2, []), RIVER, G, 8, 2), (UnlikeStands, ()))


class FalseWishes(unittest.TestCase):
    def test_against_the_words(self):
        for glasses, steps, program in CASES:
            for lot in range(glasses.every + 1):
                due = [wish for wish in glasses.members if alarm_of(glasses, steps, program, lot, wish) == "false"]
                wishes = false_wishes(glasses, steps, program, lot)
                self.assertEqual((type(wishes), list(wishes)), (tuple, due))
                self.assertEqual(wishes == (), exact_at(glasses, steps, program, lot))
                if wishes:
                    rounded = glasses.rounded(true_end(steps, program, lot))
                    self.assertEqual(wishes[0], rounded)
                    self.assertTrue(all(rounded & ~wish == 0 for wish in wishes))

    def test_errors_in_order(self):
        check_start_errors(self, false_wishes)


class Starts(unittest.TestCase):
    def test_against_exact_at(self):
        for glasses, steps, program in CASES:
            lots = range(glasses.every + 1)
            due = [lot for lot in lots if exact_at(glasses, steps, program, lot)]
            starts = starts_exact(glasses, steps, program)
            self.assertEqual((type(starts), list(starts)), (tuple, due))
            for start in starts:
                for lot in lots_within(glasses.rounded(start)):
                    self.assertTrue(start & ~lot or lot in starts)

    def test_errors_in_order(self):
        check_program_errors(self, starts_exact)


if __name__ == "__main__":
    unittest.main()
