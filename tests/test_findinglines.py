"""[5.6] to [5.10]: finding lines."""

import unittest

from helpers import (
    NO_WHOLES, check_program_errors, check_start_errors, error_of, every_glasses, lots_within, nested, programs_of,
    some_steps)
from truealarms.errors import BadLot, BadProgram, UnlikeStands
from truealarms.exactness import exact_at
from truealarms.families import made_glasses
from truealarms.findinglines import (
    find_lines, has_line, least_ends, least_starts, starts_with_line, true_lines)
from truealarms.glasses import Glasses
from truealarms.lines import lines_fault
from truealarms.rows import next_lot
from truealarms.sharpness import sharp_at
from truealarms.steps import Steps
from truealarms.trueends import true_end, true_run

F = ("step", "f")
G = ("step", "g")
TWICE = ("behind", F, F)
NARROW = Glasses(3, (0, 1, 4, 7))
WIDE = Glasses(3, (0, 1, 4, 6, 7))
RIVER = Steps(3, [("f", (2, 4, 4)), ("g", (1, 1, 1))])
PROGRAMS = [program for size in range(1, 4) for program in programs_of(size)] + [
    ("again", ("behind", F, G)), ("again", ("either", ("again", F), G)), ("behind", ("again", F), ("either", G, F)),
    ("again", ("behind", ("again", ("either", F, G)), ("again", ("behind", G, ("nothing",))))),
]


def is_smooth(glasses, steps, program, lot):
    """Whether each step that the true run meets is sharp where it is met."""
    return all(sharp_at(glasses, steps.row_of(met.name), met.lot) for met in true_run(steps, program, lot))


def grown(glasses, couples):
    """All couples of a start and an end that couples can grow to."""
    found = set()
    for start, end in couples:
        starts = [lot for lot in lots_within(glasses.rounded(start)) if start & ~lot == 0]
        ends = [lot for lot in lots_within(end) if end & ~glasses.rounded(lot) == 0]
        found |= {(one, other) for one in starts for other in ends}
    return found


def shown(glasses, rows, program):
    """All couples (start, end) for which lines show a program, by the rules one after another."""
    lots = range(glasses.every + 1)
    if program[0] == "step":
        steps = Steps(glasses.stands, [("f", rows[program[1]])])
        row = steps.rows[0]
        return grown(glasses, {(lot, next_lot(row, lot)) for lot in lots if sharp_at(glasses, row, lot)})
    if program[0] == "nothing":
        return grown(glasses, {(lot, lot) for lot in lots})
    left = shown(glasses, rows, program[1])
    if program[0] == "again":
        closed = {(start, start | end) for start, end in left if end & ~glasses.rounded(start) == 0}
        found = grown(glasses, closed)
        while True:
            more = {(start, end) for start, middle in left for other, end in found if other == start | middle}
            wider = grown(glasses, found | more)
            if wider == found:
                return found
            found = wider
    right = shown(glasses, rows, program[2])
    if program[0] == "behind":
        return grown(glasses, {(start, end) for start, one in left for other, end in right if one == other})
    return grown(glasses, {(start, one | two) for start, one in left for other, two in right if start == other})


class Finding(unittest.TestCase):
    def test_example(self):
        self.assertEqual(find_lines(NARROW, RIVER, F, 1), ((1, F, 2, "step", ()),))
        self.assertIsNone(find_lines(NARROW, RIVER, TWICE, 1))
        told = ("behind", TWICE, G)
        self.assertTrue(exact_at(NARROW, RIVER, told, 1))
        self.assertIsNone(find_lines(NARROW, RIVER, told, 1))
        lines = find_lines(WIDE, RIVER, TWICE, 1)
        self.assertEqual([line[:3] for line in lines], [(1, F, 2), (2, F, 4), (1, TWICE, 4)])

    def test_exactly_if_the_run_is_sharp(self):
        for stands in (1, 2, 3, 4):
            for glasses in every_glasses(stands)[::1 + 3 * (stands == 3)]:
                for steps in some_steps(stands)[::3]:
                    for program in PROGRAMS[::2]:
                        for lot in range(1 << stands):
                            self.check_found(glasses, steps, program, lot)

    def check_found(self, glasses, steps, program, lot):
        lines = find_lines(glasses, steps, program, lot)
        self.assertEqual(lines is not None, is_smooth(glasses, steps, program, lot))
        if lines is not None:
            self.assertIs(type(lines), tuple)
            self.assertIsNone(lines_fault(glasses, steps, lines))
            self.assertEqual(lines[-1][:3], (lot, program, true_end(steps, program, lot)))

    def test_the_lot_0(self):
        dark = Glasses(2, (1, 3))
        steps = Steps(2, [("f", (1, 2)), ("g", (2, 2))])
        self.assertEqual(find_lines(dark, steps, F, 0), ((0, F, 0, "step", ()),))
        self.assertIsNone(find_lines(dark, steps, G, 0))
        self.check_found(dark, steps, ("again", ("either", F, F)), 0)

    def test_six_stands_and_many_rounds(self):
        steps = Steps(6, [("f", (2, 4, 8, 16, 32, 1)), ("g", (32, 1, 2, 4, 8, 16))])
        program = nested(lambda inner: ("again", ("behind", inner, ("either", F, G))), 4, G)
        bright = made_glasses(6, list(range(63)))
        lines = find_lines(bright, steps, program, 1)
        self.assertIsNone(lines_fault(bright, steps, lines))
        self.assertEqual(lines[-1][:3], (1, program, 63))
        self.assertLess(len(lines), 1000)

    def test_errors_in_order(self):
        check_start_errors(self, find_lines)
        check_start_errors(self, least_ends)
        check_start_errors(self, least_starts)
        check_start_errors(self, has_line, "no end")
        check_program_errors(self, starts_with_line)

    def test_lots_from_left_to_right(self):
        for lot in NO_WHOLES + (8,):
            self.assertEqual(error_of(has_line, NARROW, RIVER, F, 1, lot), (BadLot, ()), lot)
        self.assertEqual(error_of(has_line, NARROW, RIVER, ("step", "h"), 8, 8), (BadProgram, ("name",)))
        self.assertEqual(error_of(has_line, made_glasses(2, []), RIVER, None, 8, 8), (UnlikeStands, ()))


class TrueLines(unittest.TestCase):
    def test_example(self):
        self.assertEqual(true_lines(RIVER, F, 1), ((1, F, 2, "step", ()),))
        lines = true_lines(RIVER, TWICE, 1)
        self.assertEqual(lines_fault(NARROW, RIVER, lines), (1, "sharp"))
        self.assertIsNone(lines_fault(WIDE, RIVER, lines))

    def test_right_in_all_glasses_with_lines_and_sharp_in_all_others(self):
        for stands in (1, 2, 3, 4):
            families = every_glasses(stands)
            for steps in some_steps(stands)[::3]:
                for program in PROGRAMS[::2]:
                    for lot in range(1 << stands):
                        lines = true_lines(steps, program, lot)
                        self.assertNotIn("grow", [line[3] for line in lines])
                        self.assertEqual(lines[-1][:3], (lot, program, true_end(steps, program, lot)))
                        for glasses in families[(lot + stands) % 7::7]:
                            self.check_fault(glasses, steps, program, lot, lines)

    def check_fault(self, glasses, steps, program, lot, lines):
        fault = lines_fault(glasses, steps, lines)
        found = find_lines(glasses, steps, program, lot)
        self.assertEqual(fault is None, found is not None)
        if fault is not None:
            number, word = fault
            self.assertEqual(word, "sharp")
            blurs = [(met.name, met.lot) for met in true_run(steps, program, lot)
                     if not sharp_at(glasses, steps.row_of(met.name), met.lot)]
            self.assertEqual((lines[number][1][1], lines[number][0]), blurs[0])

    def test_errors_in_order(self):
        for program, what in ((None, "kind"), (["step", "f"], "kind"), (("step", "h"), "name")):
            self.assertEqual(error_of(true_lines, RIVER, program, "no lot"), (BadProgram, (what,)))
        for lot in NO_WHOLES + (8,):
            self.assertEqual(error_of(true_lines, RIVER, F, lot), (BadLot, ()), lot)


class Choices(unittest.TestCase):
    def test_example(self):
        self.assertEqual(least_ends(NARROW, RIVER, F, 1), (2,))
        self.assertEqual(least_ends(NARROW, RIVER, F, 3), (2,))
        self.assertEqual(least_ends(NARROW, RIVER, TWICE, 1), ())
        self.assertEqual(least_starts(NARROW, RIVER, F, 7), (3, 5))
        self.assertEqual(least_starts(NARROW, RIVER, F, 2), ())
        self.assertEqual(starts_with_line(NARROW, RIVER, F), (0, 1, 3, 4, 5, 7))
        self.assertIs(has_line(NARROW, RIVER, F, 1, 2), True)
        self.assertIs(has_line(NARROW, RIVER, F, 2, 4), False)

    def test_against_lines_by_the_rules(self):
        for glasses in every_glasses(2) + every_glasses(3)[2::7]:
            for steps in some_steps(glasses.stands)[1::3]:
                rows = dict(zip(steps.names, steps.rows))
                for program in PROGRAMS[::3] + PROGRAMS[-2:]:
                    self.check_choices(glasses, steps, program, shown(glasses, rows, program))

    def check_choices(self, glasses, steps, program, couples):
        lots = range(glasses.every + 1)
        starts = [start for start in lots if any((start, end) in couples for end in lots)]
        self.assertEqual(starts_with_line(glasses, steps, program), tuple(starts))
        for lot in lots:
            ends = [end for end in lots if (lot, end) in couples]
            told = [end for end in lots if has_line(glasses, steps, program, lot, end)]
            self.assertEqual(told, ends)
            self.assertEqual(least_ends(glasses, steps, program, lot), self.least(ends))
            alike = [start for start in starts
                     if start & ~lot == 0 and glasses.rounded(start) == glasses.rounded(lot)]
            self.assertEqual(least_starts(glasses, steps, program, lot), self.least(alike))

    def least(self, lots):
        return tuple([lot for lot in lots if not any(other & ~lot == 0 and other != lot for other in lots)])

    def test_lines_from_lots_up_to_the_rounded_one(self):
        for glasses in every_glasses(3)[::4]:
            for steps in some_steps(3)[::4]:
                for program in PROGRAMS[::3]:
                    starts = starts_with_line(glasses, steps, program)
                    for start in starts:
                        for lot in lots_within(glasses.rounded(start)):
                            self.assertTrue(start & ~lot or lot in starts)

    def test_all_kinds_of_results_are_tuples(self):
        self.assertIs(type(least_ends(NARROW, RIVER, F, 1)), tuple)
        self.assertIs(type(least_starts(NARROW, RIVER, F, 1)), tuple)
        self.assertIs(type(starts_with_line(NARROW, RIVER, F)), tuple)


if __name__ == "__main__":
    unittest.main()
