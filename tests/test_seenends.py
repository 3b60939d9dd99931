"""[3.1], [3.2] and [3.3]: seen ends, tables, gaps and finer glasses."""

import unittest

from helpers import (
    check_program_errors, check_start_errors, end_by_rounds, error_of, every_glasses, programs_of, seen_by_document,
    some_steps)
from truealarms.errors import UnlikeStands
from truealarms.families import made_glasses
from truealarms.glasses import Glasses
from truealarms.seenends import check_alike, is_finer, seen_end, seen_gap, seen_table
from truealarms.steps import Steps
from truealarms.trueends import true_end

F = ("step", "f")
G = ("step", "g")
PROGRAMS = [program for size in range(1, 4) for program in programs_of(size)] + [
    ("again", ("behind", ("again", F), G)),
    ("again", ("either", ("again", ("behind", F, ("again", G))), G)),
    ("behind", ("again", ("either", F, G)), ("either", ("behind", G, F), ("again", ("again", F)))),
    ("again", ("behind", ("again", ("behind", ("again", ("behind", ("again", F), G)), F)), G)),
]
RIVER = Steps(3, [("f", (2, 4, 4))])
NARROW = Glasses(3, (0, 1, 4, 7))


class Alike(unittest.TestCase):
    def test_glasses_and_steps_both_ways_round(self):
        for one in (made_glasses(3, []), Steps(3, [])):
            for other in (made_glasses(3, [1]), Steps(3, [("f", (1, 1, 1))])):
                self.assertIsNone(check_alike(one, other))
        for one in (made_glasses(3, []), Steps(3, [])):
            for other in (made_glasses(2, []), Steps(2, [])):
                self.assertEqual(error_of(check_alike, one, other), (UnlikeStands, ()))
                self.assertEqual(error_of(check_alike, other, one), (UnlikeStands, ()))


class Ends(unittest.TestCase):
    def test_example(self):
        wide = Glasses(4, (0, 1, 2, 7, 15))
        steps = Steps(4, [("r", (2, 2, 8, 8))])
        self.assertEqual(seen_end(wide, steps, ("again", ("step", "r")), 1), 15)
        self.assertEqual(seen_end(wide, steps, ("step", "r"), 1), 2)
        self.assertEqual(seen_end(NARROW, RIVER, ("behind", F, F), 1), 7)
        self.assertEqual(seen_end(NARROW, RIVER, ("nothing",), 2), 7)

    def test_an_either_is_rounded_together(self):
        glasses, steps = Glasses(3, (0, 1, 2, 4, 7)), Steps(3, [("f", (1, 1, 1)), ("g", (2, 2, 2))])
        self.assertEqual(seen_end(glasses, steps, ("either", F, G), 4), 7)

    def test_against_the_document(self):
        for stands in range(1, 7):
            for glasses in every_glasses(stands)[::1 + 2 * (stands == 3)]:
                for steps in some_steps(stands)[::4]:
                    rows = dict(zip(steps.names, steps.rows))
                    for program in PROGRAMS[::1 + (stands > 3)]:
                        table = seen_table(glasses, steps, program)
                        self.assertIs(type(table), tuple)
                        due = [seen_by_document(glasses, rows, program, member) for member in glasses.members]
                        self.assertEqual(list(table), due)

    def test_the_true_end_within_and_lots_rounded_alike(self):
        for stands in (2, 3, 4):
            for glasses in every_glasses(stands)[::5]:
                for steps in some_steps(stands)[::3]:
                    for program in PROGRAMS[::2]:
                        ends = [seen_end(glasses, steps, program, lot) for lot in range(1 << stands)]
                        table = dict(zip(glasses.members, seen_table(glasses, steps, program)))
                        for lot, end in enumerate(ends):
                            self.assertIn(end, glasses)
                            self.assertEqual(end, table[glasses.rounded(lot)])
                            self.assertEqual(true_end(steps, program, lot) & ~end, 0)
                            for other in range(lot + 1):
                                if other & ~lot == 0:
                                    self.assertEqual(ends[other] & ~end, 0)

    def test_the_lot_0_where_it_is_no_member(self):
        glasses = Glasses(2, (1, 3))
        steps = Steps(2, [("f", (2, 2))])
        self.assertEqual(seen_end(glasses, steps, ("nothing",), 0), 1)
        self.assertEqual(seen_end(glasses, steps, F, 0), 3)
        self.assertEqual(true_end(steps, F, 0), 0)

    def test_all_alone_and_all_lots(self):
        for stands in range(1, 5):
            dark, bright = made_glasses(stands, []), made_glasses(stands, list(range(1 << stands)))
            for steps in some_steps(stands)[::2]:
                rows = dict(zip(steps.names, steps.rows))
                for program in PROGRAMS[::2]:
                    for lot in range(1 << stands):
                        self.assertEqual(seen_end(dark, steps, program, lot), (1 << stands) - 1)
                        self.assertEqual(seen_end(bright, steps, program, lot), end_by_rounds(rows, program, lot))

    def test_errors_in_order(self):
        check_start_errors(self, seen_end)
        check_start_errors(self, seen_gap)
        check_program_errors(self, seen_table)


class Gaps(unittest.TestCase):
    def test_example(self):
        self.assertEqual(seen_gap(NARROW, RIVER, ("behind", F, F), 1), 3)
        self.assertEqual(seen_gap(NARROW, RIVER, F, 1), 0)

    def test_gaps_are_what_is_seen_too_much(self):
        for glasses in every_glasses(3)[::4]:
            for steps in some_steps(3)[::3]:
                for program in PROGRAMS[::3]:
                    for lot in range(8):
                        seen = seen_end(glasses, steps, program, lot)
                        rounded = glasses.rounded(true_end(steps, program, lot))
                        gap = seen_gap(glasses, steps, program, lot)
                        self.assertEqual((gap | rounded, gap & rounded), (seen, 0))
                        self.assertEqual(gap == 0, seen == rounded)


class Finer(unittest.TestCase):
    def test_members_decide(self):
        families = every_glasses(3)
        for one in families:
            for other in families:
                self.assertIs(is_finer(one, other), set(other.members) <= set(one.members))
            self.assertIs(is_finer(one, one), True)

    def test_unlike_stands(self):
        for one, other in ((2, 3), (3, 2), (1, 6)):
            self.assertEqual(error_of(is_finer, made_glasses(one, []), made_glasses(other, [])), (UnlikeStands, ()))

    def test_finer_glasses_see_no_more(self):
        families = every_glasses(3)
        for steps in some_steps(3)[::4]:
            for program in PROGRAMS[::4]:
                ends = [[seen_end(glasses, steps, program, lot) for lot in range(8)] for glasses in families]
                for one, seen in zip(families, ends):
                    for other, wider in zip(families, ends):
                        if is_finer(one, other):
                            self.assertTrue(all(a & ~b == 0 for a, b in zip(seen, wider)))


if __name__ == "__main__":
    unittest.main()
