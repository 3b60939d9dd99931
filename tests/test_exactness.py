"""[4.12] to [4.15]: exact programs."""

import unittest

from helpers import (
    check_program_errors, check_result, check_start_errors, error_of, every_glasses, lots_within, programs_of,
    some_rows, some_steps)
from truealarms.errors import UnlikeStands
from truealarms.exactness import Misled, all_exact, exact_at, exactness_word, first_inexact
from truealarms.families import made_glasses
from truealarms.glasses import Glasses
from truealarms.seenends import seen_end
from truealarms.sharpness import blurred_lots, sharp_at, sharp_steps, unsharp_member
from truealarms.steps import Steps
from truealarms.trueends import meaning_row, true_end

F = ("step", "f")
G = ("step", "g")
PROGRAMS = [program for size in range(1, 4) for program in programs_of(size)] + [
    ("again", ("behind", ("again", F), G)),
    ("behind", ("behind", F, F), G),
    ("behind", ("again", ("either", F, G)), ("either", ("behind", G, F), ("again", ("again", F)))),
]
NARROW = Glasses(3, (0, 1, 4, 7))
RIVER = Steps(3, [("f", (2, 4, 4)), ("g", (1, 1, 1))])


def exact_by_document(glasses, steps, program, lot):
    return glasses.rounded(true_end(steps, program, lot)) == seen_end(glasses, steps, program, lot)


def cases():
    """Glasses, steps and programs to try."""
    found = []
    for stands in (1, 2, 3, 4):
        for glasses in every_glasses(stands)[::1 + 4 * (stands == 3)]:
            for steps in some_steps(stands)[::3]:
                found += [(glasses, steps, program) for program in PROGRAMS[::2]]
    return found


CASES = cases()


class Exact(unittest.TestCase):
    def test_example(self):
        self.assertIs(exact_at(NARROW, RIVER, ("behind", F, F), 1), False)
        self.assertIs(exact_at(NARROW, RIVER, F, 1), True)
        self.assertIs(exact_at(NARROW, RIVER, ("behind", ("behind", F, F), G), 1), True)

    def test_against_the_document(self):
        for glasses, steps, program in CASES:
            for lot in range(glasses.every + 1):
                due = exact_by_document(glasses, steps, program, lot)
                self.assertIs(exact_at(glasses, steps, program, lot), due)

    def test_first_inexact(self):
        self.assertEqual(first_inexact(NARROW, RIVER, F), 2)
        self.assertIsNone(first_inexact(NARROW, RIVER, G))
        for glasses, steps, program in CASES:
            inexact = [lot for lot in range(glasses.every + 1)
                       if not exact_by_document(glasses, steps, program, lot)]
            self.assertEqual(first_inexact(glasses, steps, program), min(inexact, default=None))

    def test_errors_in_order(self):
        check_start_errors(self, exact_at)
        check_start_errors(self, exactness_word)
        check_program_errors(self, first_inexact)


class Words(unittest.TestCase):
    def test_each_word(self):
        self.assertEqual(exactness_word(NARROW, RIVER, F, 1), "exact")
        self.assertEqual(exactness_word(NARROW, RIVER, F, 2), "rounding")
        self.assertEqual(exactness_word(NARROW, RIVER, ("behind", F, F), 1), "run")
        high = Glasses(3, (4, 5, 7))
        steps = Steps(3, [("f", (0, 2, 2)), ("g", (6, 5, 2))])
        self.assertEqual(exactness_word(high, steps, ("behind", ("behind", F, F), G), 1), "both")

    def test_against_the_document(self):
        found = set()
        for glasses, steps, program in CASES:
            row = meaning_row(steps, program)
            for lot in range(glasses.every + 1):
                exact = exact_by_document(glasses, steps, program, lot)
                at_member = exact_by_document(glasses, steps, program, glasses.rounded(lot))
                sharp = sharp_at(glasses, row, lot)
                word = exactness_word(glasses, steps, program, lot)
                due = {(False, True): "run", (True, False): "rounding", (False, False): "both"}
                self.assertEqual(word, "exact" if exact else due[(at_member, sharp)])
                self.assertEqual(exact, at_member and sharp)
                found.add(word)
        self.assertEqual(found, {"exact", "run", "rounding", "both"})

    def test_exact_up_to_the_rounded_lot(self):
        for glasses, steps, program in CASES[::3]:
            for lot in range(glasses.every + 1):
                if exact_at(glasses, steps, program, lot):
                    for other in lots_within(glasses.rounded(lot)):
                        if lot & ~other == 0:
                            self.assertTrue(exact_at(glasses, steps, program, other))

    def test_exact_at_all_lots(self):
        for glasses, steps, program in CASES:
            at_members = all(exact_at(glasses, steps, program, member) for member in glasses.members)
            sharp = unsharp_member(glasses, meaning_row(steps, program)) is None
            self.assertEqual(first_inexact(glasses, steps, program) is None, at_members and sharp)


class Parts(unittest.TestCase):
    def test_programs_of_exact_parts(self):
        other_way = {"behind": 0, "either": 0, "again": 0}
        for glasses, steps, program in CASES:
            if program[0] in other_way:
                for lot in range(glasses.every + 1):
                    exact = exact_at(glasses, steps, program, lot)
                    parts = self.parts_exact(glasses, steps, program, lot)
                    self.assertTrue(exact or not parts)
                    other_way[program[0]] += exact and not parts
        # None of the three holds the other way round.
        self.assertTrue(all(other_way.values()))

    def parts_exact(self, glasses, steps, program, lot):
        if program[0] == "again":
            return exact_at(glasses, steps, program[1], true_end(steps, program, lot))
        second = true_end(steps, program[1], lot) if program[0] == "behind" else lot
        return exact_at(glasses, steps, program[1], lot) and exact_at(glasses, steps, program[2], second)

    def test_an_exact_program_of_two_parts_taken_as_one_step(self):
        for glasses, steps, program in CASES[::3]:
            one = steps.with_row("h", meaning_row(steps, program))
            for lot in range(glasses.every + 1):
                self.assertEqual(true_end(one, ("step", "h"), lot), true_end(steps, program, lot))
                word = exactness_word(glasses, steps, program, lot)
                self.assertEqual(exact_at(glasses, one, ("step", "h"), lot), word in ("exact", "run"))


class AllExact(unittest.TestCase):
    def test_the_first_step_that_is_not_sharp(self):
        misled = all_exact(NARROW, RIVER)
        self.assertEqual((type(misled), misled.name, misled.lot, misled.wish), (Misled, "f", 6, 4))
        steps = Steps(3, [("z", (1, 1, 1)), ("y", (2, 4, 4)), ("a", (4, 2, 1)), ("x", (2, 2, 2))])
        self.assertEqual(all_exact(NARROW, steps).name, "y")

    def test_none(self):
        self.assertIsNone(all_exact(NARROW, Steps(3, [])))
        self.assertIsNone(all_exact(NARROW, Steps(3, [("f", (1, 2, 4)), ("g", (0, 0, 0))])))
        self.assertIsNone(all_exact(made_glasses(3, list(range(8))), RIVER))
        self.assertIsNone(all_exact(made_glasses(3, []), RIVER))

    def test_against_the_sharp_steps(self):
        rows = some_rows(3)
        for glasses in every_glasses(3):
            for at in range(len(rows) - 3):
                steps = Steps(3, list(zip(("d", "c", "b", "a"), rows[at:at + 4])))
                sharp = sharp_steps(glasses, steps)
                blurred = [name for name in steps.names if name not in sharp]
                misled = all_exact(glasses, steps)
                self.assertEqual(misled is None, blurred == [])
                if misled is not None:
                    self.check_misled(glasses, steps, misled, blurred[0])

    def check_misled(self, glasses, steps, misled, name):
        self.assertEqual(misled.name, name)
        fault = unsharp_member(glasses, steps.row_of(name))
        self.assertEqual((misled.lot, misled.wish), (fault.back, fault.member))
        self.assertIn(misled.lot, blurred_lots(glasses, steps.row_of(name)))
        self.assertEqual(true_end(steps, ("step", name), misled.lot) & ~misled.wish, 0)
        self.assertNotEqual(seen_end(glasses, steps, ("step", name), misled.lot) & ~misled.wish, 0)

    def test_sharp_steps_make_exact_programs(self):
        for glasses, steps, program in CASES:
            if all_exact(glasses, steps) is None:
                self.assertIsNone(first_inexact(glasses, steps, program))

    def test_unlike_stands(self):
        self.assertEqual(error_of(all_exact, NARROW, Steps(2, [])), (UnlikeStands, ()))
        self.assertEqual(error_of(all_exact, made_glasses(2, []), RIVER), (UnlikeStands, ()))

    def test_the_result(self):
        check_result(self, Misled, ["name", "lot", "wish"])


if __name__ == "__main__":
    unittest.main()
