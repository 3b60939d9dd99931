"""[7.6] and [7.7]: fusing steps and splitting programs."""

import unittest

from helpers import NO_WHOLES, error_of, every_glasses, nested, some_rows
from truealarms.errors import BadManner, BadProgram, BadSteps, NoStep, NotAll, NotTest
from truealarms.exactness import exact_at
from truealarms.fusing import fused_steps, split_by
from truealarms.rows import behind_row, joined_row
from truealarms.seenends import seen_end
from truealarms.sharpness import sharp_at
from truealarms.steps import Steps
from truealarms.trueends import meaning_row, same_ends, true_end

F = ("step", "f")
G = ("step", "g")
H = ("step", "h")
STEPS = Steps(3, [("f", (2, 4, 4)), ("g", (1, 4, 0)), ("low", (1, 0, 0)), ("high", (0, 2, 4)), ("all", (1, 2, 4))])


class Fusing(unittest.TestCase):
    def test_behind_and_either(self):
        fused = fused_steps(STEPS, "f", "g", "h")
        self.assertEqual(fused.names, ("f", "g", "low", "high", "all", "h"))
        self.assertEqual(fused.rows, STEPS.rows + ((4, 0, 0),))
        self.assertEqual(fused_steps(STEPS, "f", "g", "h", "behind"), fused)
        self.assertEqual(fused_steps(STEPS, "f", "g", "h", manner="either").row_of("h"), (3, 4, 4))
        self.assertEqual(fused_steps(STEPS, "g", "f", "h").row_of("h"), (2, 4, 0))
        self.assertEqual(fused_steps(STEPS, "f", "f", "h").row_of("h"), (4, 4, 4))
        self.assertEqual(len(STEPS.names), 5)

    def test_ends_of_the_new_step(self):
        for stands in (2, 3, 4):
            rows = some_rows(stands)
            for glasses in every_glasses(stands)[::5]:
                for k in range(len(rows)):
                    steps = Steps(stands, [("f", rows[k]), ("g", rows[(5 * k + 3) % len(rows)])])
                    self.check_ends(glasses, steps)

    def check_ends(self, glasses, steps):
        for manner, row in (("behind", behind_row(*steps.rows)), ("either", joined_row(*steps.rows))):
            fused = fused_steps(steps, "f", "g", "h", manner)
            self.assertEqual(fused, Steps(steps.stands, [*zip(steps.names, steps.rows), ("h", row)]))
            two = (manner, F, G)
            self.assertTrue(same_ends(fused, two, H))
            self.assertEqual(meaning_row(steps, two), row)
            for lot in range(glasses.every + 1):
                one_seen, two_seen = seen_end(glasses, fused, H, lot), seen_end(glasses, fused, two, lot)
                self.assertEqual(one_seen & ~two_seen, 0)
                self.assertTrue(manner == "behind" or one_seen == two_seen)
                # The program is exact only where the one step that it means is sharp.
                self.assertEqual(exact_at(glasses, fused, H, lot), sharp_at(glasses, row, lot))
                self.assertTrue(sharp_at(glasses, row, lot) or not exact_at(glasses, fused, two, lot))

    def test_errors_in_order(self):
        for name in NO_WHOLES + ("h", "F", ""):
            self.assertEqual(error_of(fused_steps, STEPS, name, "none", "f", "no"), (NoStep, (name,)))
            self.assertEqual(error_of(fused_steps, STEPS, "f", name, "f", "no"), (NoStep, (name,)))
        for manner in NO_WHOLES + ("Behind", "again", "", ["behind"]):
            self.assertEqual(error_of(fused_steps, STEPS, "f", "g", "f", manner), (BadManner, ()), manner)
        for new in NO_WHOLES + ("f", "high", "nothing", "H", "abcdefghi"):
            self.assertEqual(error_of(fused_steps, STEPS, "f", "g", new), (BadSteps, ("name", 5)), new)

    def test_a_twenty_first_name(self):
        letters = "abcdefghijklmnopqrstuvwxyz"
        steps = Steps(2, [(letter, (1, 2)) for letter in letters[:19]])
        steps = fused_steps(steps, "a", "b", "t")
        self.assertEqual(len(steps.names), 20)
        self.assertEqual(error_of(fused_steps, steps, "a", "b", "u"), (BadSteps, ("entries", 0)))
        self.assertEqual(error_of(fused_steps, steps, "a", "b", "a"), (BadSteps, ("entries", 0)))


class Splitting(unittest.TestCase):
    def test_the_split_program(self):
        for program in (F, ("nothing",), ("again", ("behind", F, G))):
            due = ("either", ("behind", ("step", "low"), program), ("behind", ("step", "high"), program))
            self.assertEqual(split_by(STEPS, program, "low", "high"), due)
        self.assertEqual(split_by(STEPS, F, "all", "all"), (
            "either", ("behind", ("step", "all"), F), ("behind", ("step", "all"), F)))
        self.assertEqual(split_by(STEPS, F, "high", "all")[2][1], ("step", "all"))

    def test_the_result_is_not_checked(self):
        deep = nested(lambda inner: ("behind", inner, ("nothing",)), 11)
        self.assertEqual(split_by(STEPS, deep, "low", "high")[1][2], deep)

    def test_the_ends(self):
        programs = (F, ("behind", F, G), ("again", ("either", F, G)))
        for stands in (2, 3):
            every = (1 << stands) - 1
            for glasses in every_glasses(stands)[::3]:
                for kept in range(every + 1):
                    low = tuple([kept & 1 << s for s in range(stands)])
                    high = tuple([1 << s if s == 0 or not kept >> s & 1 else 0 for s in range(stands)])
                    steps = Steps(stands, [
                        ("f", some_rows(stands)[2]), ("g", some_rows(stands)[4]), ("low", low), ("high", high)])
                    for program in programs:
                        self.check_ends(glasses, steps, program)

    def check_ends(self, glasses, steps, program):
        split = split_by(steps, program, "low", "high")
        for lot in range(glasses.every + 1):
            self.assertEqual(true_end(steps, split, lot), true_end(steps, program, lot))
            seen = seen_end(glasses, steps, split, lot)
            self.assertEqual(seen & ~seen_end(glasses, steps, program, lot), 0)

    def test_errors_in_order(self):
        self.assertEqual(error_of(split_by, STEPS, ["step", "f"], "none", "none"), (BadProgram, ("kind",)))
        self.assertEqual(error_of(split_by, STEPS, H, "none", "none"), (BadProgram, ("name",)))
        for name in NO_WHOLES + ("h", ""):
            self.assertEqual(error_of(split_by, STEPS, F, name, "none"), (NoStep, (name,)))
            self.assertEqual(error_of(split_by, STEPS, F, "f", name), (NoStep, (name,)))
        self.assertEqual(error_of(split_by, STEPS, F, "f", "g"), (NotTest, ("f",)))
        self.assertEqual(error_of(split_by, STEPS, F, "g", "f"), (NotTest, ("g",)))
        self.assertEqual(error_of(split_by, STEPS, F, "low", "f"), (NotTest, ("f",)))
        self.assertEqual(error_of(split_by, STEPS, F, "f", "low"), (NotTest, ("f",)))
        self.assertEqual(error_of(split_by, STEPS, F, "low", "low"), (NotAll, ()))
        self.assertEqual(error_of(split_by, STEPS, F, "high", "high"), (NotAll, ()))
        self.assertIsNone(error_of(split_by, STEPS, F, "high", "low"))

    def test_rows_that_are_tests(self):
        for row in [(a, b) for a in range(4) for b in range(4)]:
            steps = Steps(2, [("f", row), ("all", (1, 2))])
            due = None if row[0] in (0, 1) and row[1] in (0, 2) else (NotTest, ("f",))
            self.assertEqual(error_of(split_by, steps, F, "f", "all"), due)
            self.assertEqual(error_of(split_by, steps, F, "all", "f"), due)


if __name__ == "__main__":
    unittest.main()
