"""[6.4] and [6.5]: blurs."""

import unittest
from inspect import isgeneratorfunction

from helpers import check_result, check_start_errors, every_glasses, programs_of, some_steps
from truealarms.blurs import Blur, all_blurs, first_blur, start_within
from truealarms.exactness import exact_at
from truealarms.glasses import Glasses
from truealarms.rows import back_lot, next_lot
from truealarms.seenends import is_finer
from truealarms.sharpness import blurring_lot, sharp_at
from truealarms.steps import Steps
from truealarms.trueends import true_end, true_run

F = ("step", "f")
G = ("step", "g")
TWICE = ("behind", F, F)
NARROW = Glasses(3, (0, 1, 4, 7))
RIVER = Steps(3, [("f", (2, 4, 4)), ("g", (1, 1, 1))])
NAMES = ["path", "name", "lot", "true_next", "seen_next", "mend"]
PROGRAMS = [program for size in range(1, 4) for program in programs_of(size)] + [
    ("again", ("behind", F, G)), ("behind", ("again", F), ("either", G, F)),
    ("again", ("either", ("again", F), G)), ("behind", ("behind", F, F), F)]


def told(blur):
    return tuple(vars(blur).values())


def blurs_by_document(glasses, steps, program, lot):
    found = []
    for met in true_run(steps, program, lot):
        row = steps.row_of(met.name)
        member = glasses.rounded(met.lot)
        true_next, seen_next = next_lot(row, met.lot), glasses.rounded(next_lot(row, member))
        if glasses.rounded(true_next) != seen_next:
            out = [s for s in range(6) if member >> s & 1 and row[s] & ~glasses.rounded(true_next)]
            mend = member - sum(1 << s for s in out)
            found.append((met.path, met.name, met.lot, true_next, seen_next, mend))
    return found


def cases():
    found = []
    for stands in (1, 2, 3, 4):
        for glasses in every_glasses(stands)[::1 + 3 * (stands == 3)]:
            for steps in some_steps(stands)[::3]:
                found += [(glasses, steps, program) for program in PROGRAMS[::2] + PROGRAMS[-3:]]
    return found


CASES = cases()


class Blurs(unittest.TestCase):
    def test_example(self):
        self.assertEqual(told(first_blur(NARROW, RIVER, TWICE, 1)), ((1,), "f", 2, 4, 7, 6))
        self.assertIsNone(first_blur(NARROW, RIVER, F, 1))
        self.assertEqual(list(all_blurs(NARROW, RIVER, F, 1)), [])

    def test_a_step_met_again_at_the_same_lot(self):
        program = ("either", F, ("either", ("nothing",), F))
        blurs = [told(blur) for blur in all_blurs(NARROW, RIVER, program, 2)]
        self.assertEqual(blurs, [((0,), "f", 2, 4, 7, 6), ((1, 1), "f", 2, 4, 7, 6)])

    def test_against_the_document(self):
        many = 0
        for glasses, steps, program in CASES:
            for lot in range(glasses.every + 1):
                due = blurs_by_document(glasses, steps, program, lot)
                blurs = [told(blur) for blur in all_blurs(glasses, steps, program, lot)]
                self.assertEqual(blurs, due)
                first = first_blur(glasses, steps, program, lot)
                self.assertEqual(first and told(first), due[0] if due else None)
                many += len(due) > 1
                if not due:
                    self.assertTrue(exact_at(glasses, steps, program, lot))
        self.assertGreater(many, 100)

    def test_mends(self):
        for glasses, steps, program in CASES[::3]:
            for lot in range(glasses.every + 1):
                for blur in all_blurs(glasses, steps, program, lot):
                    row = steps.row_of(blur.name)
                    self.assertEqual(blur.lot & ~blur.mend, 0)
                    self.assertNotIn(blur.mend, glasses)
                    out = blurring_lot(glasses, row, blur.lot)
                    self.assertEqual(glasses.rounded(blur.lot) & ~out, blur.mend)

    def test_an_exact_start_with_a_blur(self):
        program = ("behind", TWICE, G)
        self.assertTrue(exact_at(NARROW, RIVER, program, 1))
        self.assertEqual([blur.lot for blur in all_blurs(NARROW, RIVER, program, 1)], [2])

    def test_results(self):
        self.assertTrue(isgeneratorfunction(all_blurs))
        blur = first_blur(NARROW, RIVER, TWICE, 1)
        self.assertEqual((type(blur), type(blur.path), list(vars(blur))), (Blur, tuple, NAMES))
        check_result(self, Blur, NAMES)

    def test_errors_in_order(self):
        check_start_errors(self, lambda *given: list(all_blurs(*given)))
        check_start_errors(self, first_blur)
        check_start_errors(self, start_within)


class FinerGlasses(unittest.TestCase):
    def test_what_finer_glasses_must_see(self):
        for stands in (2, 3):
            families = every_glasses(stands)
            finer = {glasses.members: [other for other in families if is_finer(other, glasses)]
                     for glasses in families}
            for glasses in families[::1 + 2 * (stands == 3)]:
                for steps in some_steps(stands)[::3]:
                    for program in PROGRAMS[::4] + PROGRAMS[-2:]:
                        for lot in range(0, 1 << stands, stands - 1):
                            self.check_finer(glasses, steps, program, lot, finer[glasses.members])

    def check_finer(self, glasses, steps, program, lot, finer):
        for blur in all_blurs(glasses, steps, program, lot):
            row = steps.row_of(blur.name)
            for other in finer:
                if sharp_at(other, row, blur.lot):
                    self.assertEqual(other.rounded(blur.lot) & ~blur.mend, 0)
        within = start_within(glasses, steps, program, lot)
        for other in finer:
            if exact_at(other, steps, program, lot):
                self.assertEqual(other.rounded(lot) & ~within, 0)


class Starts(unittest.TestCase):
    def test_example(self):
        self.assertEqual(start_within(NARROW, RIVER, TWICE, 1), 1)
        self.assertEqual(start_within(NARROW, RIVER, F, 2), 6)

    def test_against_the_document(self):
        for glasses, steps, program in CASES:
            for lot in range(glasses.every + 1):
                member, rounded = glasses.rounded(lot), glasses.rounded(true_end(steps, program, lot))
                due = sum(1 << s for s in range(6) if member >> s & 1
                          and true_end(steps, program, 1 << s) & ~rounded == 0)
                within = start_within(glasses, steps, program, lot)
                self.assertEqual(within, due)
                if exact_at(glasses, steps, program, lot):
                    self.assertEqual(within, member)
                if program[0] == "step":
                    row = steps.row_of(program[1])
                    self.assertEqual(within, member & back_lot(row, rounded))

    def test_the_rounded_start_though_the_program_is_not_exact(self):
        # The blur is at the second step alone, from the member 1.
        self.assertFalse(exact_at(NARROW, RIVER, TWICE, 1))
        self.assertEqual(start_within(NARROW, RIVER, TWICE, 1), NARROW.rounded(1))


if __name__ == "__main__":
    unittest.main()
