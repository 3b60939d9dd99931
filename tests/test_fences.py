"""[3.7] and [3.8]: fences."""

import unittest
from itertools import product

from helpers import (
    NO_SEQUENCES, NO_WHOLES, check_start_errors, error_of, every_glasses, programs_of, seen_by_document, some_steps)
from truealarms.errors import BadLot, BadProgram, NoMember, UnlikeStands
from truealarms.families import made_glasses
from truealarms.fences import fences_fault, find_fences
from truealarms.glasses import Glasses
from truealarms.rows import next_lot
from truealarms.seenends import seen_end
from truealarms.steps import Steps
from truealarms.trueends import true_end

F = ("step", "f")
G = ("step", "g")
WIDE = Glasses(4, (0, 1, 2, 7, 15))
ROAD = Steps(4, [("f", (2, 2, 8, 8)), ("g", (1, 4, 4, 1))])
TWICE = ("behind", ("again", ("behind", ("again", F), G)), ("again", G))
PROGRAMS = [program for size in range(1, 4) for program in programs_of(size)] + [
    TWICE, ("either", ("again", F), ("again", ("either", ("again", G), F))), ("again", ("again", ("behind", F, G))),
]


def agains_in(program):
    if program[0] == "step":
        return 0
    return (program[0] == "again") + sum([agains_in(inner) for inner in program[1:]])


def fences_by_document(glasses, rows, program, member, fences):
    """Walk a program as find_fences is told to; returns the end and puts the fences into the list."""
    if program[0] == "step":
        return glasses.rounded(next_lot(rows[program[1]], member))
    if program[0] == "nothing":
        return member
    if program[0] == "again":
        fence = seen_by_document(glasses, rows, program, member)
        fences.append(fence)
        fences_by_document(glasses, rows, program[1], fence, fences)
        return fence
    left = fences_by_document(glasses, rows, program[1], member, fences)
    second = left if program[0] == "behind" else member
    right = fences_by_document(glasses, rows, program[2], second, fences)
    return right if program[0] == "behind" else glasses.rounded(left | right)


def walk_by_document(glasses, rows, program, member, fences, faults):
    """Walk a program by fences, a list that is used up; returns the end and puts the faults into the list."""
    if program[0] == "step":
        return glasses.rounded(next_lot(rows[program[1]], member))
    if program[0] == "nothing":
        return member
    if program[0] == "again":
        fence = fences.pop(0)
        if member & ~fence:
            faults.append("start")
        if walk_by_document(glasses, rows, program[1], fence, fences, faults) & ~fence:
            faults.append("round")
        return fence
    left = walk_by_document(glasses, rows, program[1], member, fences, faults)
    second = left if program[0] == "behind" else member
    right = walk_by_document(glasses, rows, program[2], second, fences, faults)
    return right if program[0] == "behind" else glasses.rounded(left | right)


def fault_by_document(glasses, rows, program, lot, wish, fences):
    faults = []
    end = walk_by_document(glasses, rows, program, glasses.rounded(lot), list(fences), faults)
    if faults:
        return "start" if "start" in faults else "round"
    return None if end & ~wish == 0 else "wish"


class Finding(unittest.TestCase):
    def test_example(self):
        self.assertEqual(find_fences(WIDE, ROAD, ("again", F), 1), (15,))

    def test_the_order_of_the_agains(self):
        # From 2, f stays there, and g comes to 0, 1 and 2; from there f comes to all stands.
        program = ("behind", ("again", ("behind", ("again", G), G)), ("again", F))
        self.assertEqual(find_fences(WIDE, ROAD, program, 2), (7, 7, 15))
        program = ("either", ("again", F), ("again", ("either", ("again", G), ("nothing",))))
        self.assertEqual(find_fences(WIDE, ROAD, program, 2), (2, 7, 7))

    def test_a_program_without_an_again(self):
        self.assertEqual(find_fences(WIDE, ROAD, ("behind", F, G), 1), ())

    def test_against_the_document(self):
        for stands in (1, 2, 3, 4, 6):
            for glasses in every_glasses(stands)[::3]:
                for steps in some_steps(stands)[::4]:
                    rows = dict(zip(steps.names, steps.rows))
                    for program in PROGRAMS[::2] + PROGRAMS[-3:]:
                        for lot in range(0, 1 << stands, 1 + stands // 2):
                            due = []
                            fences_by_document(glasses, rows, program, glasses.rounded(lot), due)
                            self.assertEqual(find_fences(glasses, steps, program, lot), tuple(due))

    def test_errors_in_order(self):
        check_start_errors(self, find_fences)


class Judging(unittest.TestCase):
    def test_each_word(self):
        again = ("again", F)
        self.assertIsNone(fences_fault(WIDE, ROAD, again, 1, 15, (15,)))
        self.assertIsNone(fences_fault(WIDE, ROAD, again, 1, 15, [15]))
        self.assertEqual(fences_fault(WIDE, ROAD, again, 1, 7, (15,)), "wish")
        self.assertEqual(fences_fault(WIDE, ROAD, again, 1, 7, (7,)), "round")
        self.assertEqual(fences_fault(WIDE, ROAD, again, 4, 15, (1,)), "start")
        self.assertEqual(fences_fault(WIDE, ROAD, again, 1, 15, (3,)), "member")
        self.assertEqual(fences_fault(WIDE, ROAD, again, 1, 15, ()), "many")

    def test_many_comes_ahead_of_member(self):
        for fences in ((3, 15), [], [15, True], (3, 3, 3)):
            self.assertEqual(fences_fault(WIDE, ROAD, ("again", F), 1, 15, fences), "many")
        for fences in NO_SEQUENCES:
            self.assertEqual(fences_fault(WIDE, ROAD, ("again", F), 1, 15, fences), "many")
            self.assertEqual(fences_fault(WIDE, ROAD, F, 1, 15, fences), "many")
        self.assertEqual(fences_fault(WIDE, ROAD, F, 1, 15, (15,)), "many")

    def test_no_members_among_the_fences(self):
        for fence in NO_WHOLES + (3, 16):
            self.assertEqual(fences_fault(WIDE, ROAD, ("again", F), 15, 15, [fence]), "member", fence)
            self.assertEqual(fences_fault(WIDE, ROAD, ("again", ("again", F)), 15, 15, [1, fence]), "member", fence)

    def test_all_starts_ahead_of_any_round(self):
        # The first fence fails at its round; the second one is not come to from within.
        program = ("behind", ("again", F), ("again", G))
        self.assertEqual(fences_fault(WIDE, ROAD, program, 1, 15, (1, 0)), "start")
        self.assertEqual(fences_fault(WIDE, ROAD, program, 1, 15, (1, 1)), "round")

    def test_the_wish_all_and_no_again(self):
        self.assertIsNone(fences_fault(WIDE, ROAD, ("behind", F, G), 1, 15, ()))
        self.assertIsNone(fences_fault(WIDE, ROAD, F, 1, 2, []))
        self.assertEqual(fences_fault(WIDE, ROAD, F, 1, 1, []), "wish")

    def test_against_the_document(self):
        steps = some_steps(3)[4]
        rows = dict(zip(steps.names, steps.rows))
        for glasses in every_glasses(3)[::6]:
            for program in PROGRAMS[::3] + PROGRAMS[-3:]:
                for fences in product(glasses.members, repeat=agains_in(program)):
                    for lot, wish in ((1, glasses.members[0]), (0, 7), (6, glasses.members[-2:][0])):
                        due = fault_by_document(glasses, rows, program, lot, wish, fences)
                        self.assertEqual(fences_fault(glasses, steps, program, lot, wish, fences), due)

    def test_fences_show_the_wish_and_the_found_ones_are_least(self):
        for glasses in every_glasses(3)[::9]:
            for steps in some_steps(3)[1::5]:
                for program in PROGRAMS[4::4] + PROGRAMS[-3:]:
                    for lot in (0, 2, 5):
                        self.check_wishes(glasses, steps, program, lot)

    def check_wishes(self, glasses, steps, program, lot):
        seen = seen_end(glasses, steps, program, lot)
        least = find_fences(glasses, steps, program, lot)
        choices = list(product(glasses.members, repeat=agains_in(program)))
        for wish in glasses.members:
            within = seen & ~wish == 0
            right = [fences for fences in choices
                     if fences_fault(glasses, steps, program, lot, wish, fences) is None]
            self.assertEqual(bool(right), within)
            self.assertEqual(least in right, within)
            if right:
                self.assertEqual(true_end(steps, program, lot) & ~wish, 0)
            for fences in right:
                self.assertTrue(all(a & ~b == 0 for a, b in zip(least, fences)))

    def test_errors_in_order(self):
        check_start_errors(self, fences_fault, "no wish", "no fences")
        for wish in NO_WHOLES + (16,):
            self.assertEqual(error_of(fences_fault, WIDE, ROAD, F, 1, wish, None), (BadLot, ()), wish)
        self.assertEqual(error_of(fences_fault, WIDE, ROAD, F, 1, 3, None), (NoMember, ()))
        self.assertEqual(error_of(fences_fault, WIDE, ROAD, F, 16, 3, None), (BadLot, ()))
        self.assertEqual(error_of(fences_fault, WIDE, ROAD, ("step", "h"), 16, 3, None), (BadProgram, ("name",)))
        self.assertEqual(error_of(fences_fault, made_glasses(3, []), ROAD, None, 16, 3, None), (UnlikeStands, ()))


if __name__ == "__main__":
    unittest.main()
