"""[3.4], [3.5] and [3.6]: rounds and seen runs."""

import unittest
from inspect import isgeneratorfunction

from helpers import (
    NO_WHOLES, check_result, check_start_errors, error_of, every_glasses, programs_of, seen_by_document, some_steps)
from truealarms.errors import BadLot, BadProgram, NotAgain, UnlikeStands
from truealarms.families import made_glasses
from truealarms.glasses import Glasses
from truealarms.rows import next_lot
from truealarms.seenends import is_finer, seen_end
from truealarms.seenlogs import Seen, rounds_of, seen_run
from truealarms.steps import Steps
from truealarms.trueends import true_run

F = ("step", "f")
G = ("step", "g")
WIDE = Glasses(4, (0, 1, 2, 7, 15))
ROAD = Steps(4, [("f", (2, 2, 8, 8)), ("g", (1, 4, 4, 1))])
PROGRAMS = [program for size in range(1, 4) for program in programs_of(size)] + [
    ("again", ("behind", ("again", F), G)),
    ("again", ("either", ("again", ("behind", F, ("again", G))), G)),
    ("behind", ("again", ("either", F, G)), ("either", ("behind", G, F), ("again", ("again", F)))),
]


def told(run):
    return [(seen.path, seen.name, seen.lot, seen.after) for seen in run]


def rounds_by_document(glasses, rows, inner, member):
    rounds = [member]
    while True:
        member = glasses.rounded(member | seen_by_document(glasses, rows, inner, member))
        if member == rounds[-1]:
            return rounds
        rounds.append(member)


def run_by_document(glasses, rows, program, member):
    """The seen run, as the document tells it."""
    if program[0] == "step":
        return [((), program[1], member, glasses.rounded(next_lot(rows[program[1]], member)))]
    if program[0] == "nothing":
        return []
    if program[0] == "again":
        parts = [(member, program[1]) for member in rounds_by_document(glasses, rows, program[1], member)]
    else:
        behind = program[0] == "behind"
        second = seen_by_document(glasses, rows, program[1], member) if behind else member
        parts = [(member, program[1]), (second, program[2])]
    found = []
    for number, (member, inner) in enumerate(parts):
        found += [((number,) + seen[0],) + seen[1:] for seen in run_by_document(glasses, rows, inner, member)]
    return found


def cut_path(program, path, kept, before=()):
    """A path with each round number cut to the last round that some seen path has there."""
    if not path:
        return ()
    number = path[0]
    if program[0] == "again":
        last = max(other[len(before)] for other in kept if other[:len(before)] == before)
        number = min(number, last)
    inner = program[1] if program[0] == "again" else program[1 + number]
    return (number,) + cut_path(inner, path[1:], kept, before + (number,))


class Rounds(unittest.TestCase):
    def test_example(self):
        self.assertEqual(rounds_of(WIDE, ROAD, ("again", F), 1), (1, 7, 15))

    def test_an_again_that_ends_at_once(self):
        self.assertEqual(rounds_of(WIDE, ROAD, ("again", ("nothing",)), 4), (7,))
        self.assertEqual(rounds_of(WIDE, ROAD, ("again", F), 15), (15,))
        self.assertEqual(rounds_of(WIDE, ROAD, ("again", F), 0), (0,))

    def test_first_and_last_member(self):
        for stands in (2, 3, 4):
            for glasses in every_glasses(stands)[::4]:
                for steps in some_steps(stands)[::3]:
                    rows = dict(zip(steps.names, steps.rows))
                    for inner in PROGRAMS[::3]:
                        for lot in range(1 << stands):
                            rounds = rounds_of(glasses, steps, ("again", inner), lot)
                            self.assertIs(type(rounds), tuple)
                            due = rounds_by_document(glasses, rows, inner, glasses.rounded(lot))
                            self.assertEqual(list(rounds), due)
                            self.assertEqual(rounds[-1], seen_end(glasses, steps, ("again", inner), lot))
                            self.assertTrue(all(a & ~b == 0 and a != b for a, b in zip(rounds, rounds[1:])))

    def test_no_again_at_the_top_comes_last(self):
        for program in (F, ("nothing",), ("behind", ("again", F), F), ("either", F, ("again", F))):
            self.assertEqual(error_of(rounds_of, WIDE, ROAD, program, 1), (NotAgain, ()))
            self.assertEqual(error_of(rounds_of, WIDE, ROAD, program, 16), (BadLot, ()))
            self.assertEqual(error_of(rounds_of, made_glasses(3, []), ROAD, program, 1), (UnlikeStands, ()))
        for lot in NO_WHOLES + (16,):
            self.assertEqual(error_of(rounds_of, WIDE, ROAD, ("again", F), lot), (BadLot, ()))
        self.assertEqual(error_of(rounds_of, WIDE, ROAD, ("step", "h"), 16), (BadProgram, ("name",)))
        check_start_errors(self, rounds_of)


class Runs(unittest.TestCase):
    def test_example(self):
        run = told(seen_run(WIDE, ROAD, ("again", F), 1))
        self.assertEqual(run, [((0,), "f", 1, 2), ((1,), "f", 7, 15), ((2,), "f", 15, 15)])

    def test_a_step_alone_and_nothing(self):
        self.assertEqual(told(seen_run(WIDE, ROAD, F, 3)), [((), "f", 7, 15)])
        self.assertEqual(told(seen_run(WIDE, ROAD, ("nothing",), 3)), [])
        self.assertEqual(told(seen_run(WIDE, ROAD, ("again", ("nothing",)), 3)), [])

    def test_behind_and_either(self):
        run = told(seen_run(WIDE, ROAD, ("behind", F, G), 1))
        self.assertEqual(run, [((0,), "f", 1, 2), ((1,), "g", 2, 7)])
        run = told(seen_run(WIDE, ROAD, ("either", F, ("behind", G, G)), 1))
        self.assertEqual(run, [((0,), "f", 1, 2), ((1, 0), "g", 1, 1), ((1, 1), "g", 1, 1)])

    def test_against_the_document(self):
        for stands in (1, 2, 3, 4, 6):
            for glasses in every_glasses(stands)[::4]:
                for steps in some_steps(stands)[::4]:
                    rows = dict(zip(steps.names, steps.rows))
                    for program in PROGRAMS[::2]:
                        for lot in range(0, 1 << stands, 1 + stands // 3):
                            due = run_by_document(glasses, rows, program, glasses.rounded(lot))
                            self.assertEqual(told(seen_run(glasses, steps, program, lot)), due)

    def test_a_generator_of_results(self):
        self.assertTrue(isgeneratorfunction(seen_run))
        for seen in seen_run(WIDE, ROAD, ("again", F), 1):
            self.assertEqual((type(seen), type(seen.path)), (Seen, tuple))
        check_result(self, Seen, ["path", "name", "lot", "after"])

    def test_errors_in_order(self):
        check_start_errors(self, lambda *given: list(seen_run(*given)))


class CutPaths(unittest.TestCase):
    def check_kept(self, program, lots, run):
        """Check that each step of a finer run has one in the seen run; lots are by path, with the name."""
        for path, name, lot in run:
            cut = cut_path(program, path, list(lots))
            self.assertEqual(lots[cut][0], name)
            self.assertEqual(lot & ~lots[cut][1], 0)

    def test_the_seen_run_holds_the_true_run(self):
        for glasses in every_glasses(3)[::3] + every_glasses(4):
            for steps in some_steps(glasses.stands)[::3]:
                for program in PROGRAMS[::2]:
                    for lot in range(1 << glasses.stands):
                        lots = {seen.path: (seen.name, seen.lot) for seen in seen_run(glasses, steps, program, lot)}
                        met = [(met.path, met.name, met.lot) for met in true_run(steps, program, lot)]
                        self.check_kept(program, lots, met)

    def test_the_seen_run_holds_that_by_finer_glasses(self):
        families = every_glasses(3)[::3]
        steps = some_steps(3)[2]
        for program in PROGRAMS[::3] + PROGRAMS[-3:]:
            for lot in (0, 1, 6):
                runs = [(glasses, list(seen_run(glasses, steps, program, lot))) for glasses in families]
                for finer, finer_run in runs:
                    for glasses, run in runs:
                        if is_finer(finer, glasses):
                            lots = {seen.path: (seen.name, seen.lot) for seen in run}
                            met = [(seen.path, seen.name, seen.lot) for seen in finer_run]
                            self.check_kept(program, lots, met)


if __name__ == "__main__":
    unittest.main()
