"""[2.5], [2.6], [2.7] and [2.9]: true ends, true runs and meanings."""

import unittest
from inspect import isgeneratorfunction

from helpers import NO_WHOLES, end_by_rounds, error_of, programs_of, some_steps
from truealarms.errors import BadLot, BadProgram
from truealarms.rows import next_lot
from truealarms.steps import Steps
from truealarms.trueends import Met, meaning_row, same_ends, true_end, true_run, unlike_stand

LINE = Steps(3, [("f", (2, 4, 4))])
F = ("step", "f")
G = ("step", "g")
H = ("step", "h")
NOTHING = ("nothing",)
PROGRAMS = [program for size in range(1, 5) for program in programs_of(size)]
LONGER = [
    ("again", ("behind", ("again", ("behind", F, G)), ("either", F, NOTHING))),
    ("behind", ("again", ("either", ("behind", F, ("again", G)), G)), ("either", ("behind", G, G), ("again", F))),
    ("again", ("behind", ("again", ("behind", ("again", ("behind", ("again", F), G)), F)), G)),
]


def run_of(steps, program, lot):
    return [(met.path, met.name, met.lot) for met in true_run(steps, program, lot)]


def run_by_document(rows, program, lot):
    """The paths, names and lots of the true run, as the document tells them."""
    if program[0] == "step":
        return [((), program[1], lot)]
    if program[0] == "nothing":
        return []
    if program[0] in ("behind", "either"):
        second = end_by_rounds(rows, program[1], lot) if program[0] == "behind" else lot
        left, right = run_by_document(rows, program[1], lot), run_by_document(rows, program[2], second)
        return [((0,) + p, n, m) for p, n, m in left] + [((1,) + p, n, m) for p, n, m in right]
    told, number = [], 0
    while True:
        told += [((number,) + p, n, m) for p, n, m in run_by_document(rows, program[1], lot)]
        grown = lot | end_by_rounds(rows, program[1], lot)
        if grown == lot:
            return told
        lot, number = grown, number + 1


class Ends(unittest.TestCase):
    def test_example(self):
        self.assertEqual(true_end(LINE, ("again", F), 1), 7)
        self.assertEqual(true_end(LINE, F, 3), 6)
        self.assertEqual(true_end(LINE, ("behind", F, F), 1), 4)
        self.assertEqual(true_end(LINE, ("either", F, NOTHING), 1), 3)

    def test_against_the_document(self):
        for stands in range(1, 7):
            for steps in some_steps(stands)[::3]:
                rows = dict(zip(steps.names, steps.rows))
                for program in (PROGRAMS if stands == 3 else PROGRAMS[:30]) + LONGER:
                    for lot in range(1 << stands):
                        self.assertEqual(true_end(steps, program, lot), end_by_rounds(rows, program, lot))

    def test_nothing_from_the_lot_0(self):
        for program in PROGRAMS + LONGER:
            self.assertEqual(true_end(Steps(2, [("f", (3, 3)), ("g", (2, 1))]), program, 0), 0)

    def test_steps_that_lead_nowhere(self):
        steps = Steps(2, [("f", (0, 0))])
        self.assertEqual([true_end(steps, F, lot) for lot in range(4)], [0, 0, 0, 0])
        self.assertEqual([true_end(steps, ("again", F), lot) for lot in range(4)], [0, 1, 2, 3])

    def test_errors_in_order(self):
        for call in (true_end, list_of_run):
            self.assertEqual(error_of(call, LINE, G, "no lot"), (BadProgram, ("name",)))
            self.assertEqual(error_of(call, LINE, ["step", "f"], 0), (BadProgram, ("kind",)))
            for lot in NO_WHOLES + (8,):
                self.assertEqual(error_of(call, LINE, F, lot), (BadLot, ()), lot)


class Runs(unittest.TestCase):
    def test_example(self):
        told = [((0,), "f", 1), ((1,), "f", 3), ((2,), "f", 7)]
        self.assertEqual(run_of(LINE, ("again", F), 1), told)

    def test_a_step_alone_and_nothing(self):
        self.assertEqual(run_of(LINE, F, 5), [((), "f", 5)])
        self.assertEqual(run_of(LINE, NOTHING, 5), [])
        self.assertEqual(run_of(LINE, ("again", NOTHING), 5), [])

    def test_behind_and_either(self):
        self.assertEqual(run_of(LINE, ("behind", F, F), 1), [((0,), "f", 1), ((1,), "f", 2)])
        self.assertEqual(run_of(LINE, ("either", F, F), 1), [((0,), "f", 1), ((1,), "f", 1)])

    def test_steps_met_with_the_lot_0(self):
        steps = Steps(2, [("f", (0, 0))])
        self.assertEqual(run_of(steps, ("behind", F, F), 3), [((0,), "f", 3), ((1,), "f", 0)])
        self.assertEqual(run_of(steps, ("again", F), 0), [((0,), "f", 0)])

    def test_against_the_document(self):
        for stands in (1, 2, 3, 5):
            for steps in some_steps(stands)[::2]:
                rows = dict(zip(steps.names, steps.rows))
                for program in (PROGRAMS if stands == 3 else PROGRAMS[:30]) + LONGER:
                    for lot in range(1 << stands):
                        self.assertEqual(run_of(steps, program, lot), run_by_document(rows, program, lot))

    def test_a_generator_of_results(self):
        self.assertTrue(isgeneratorfunction(true_run))
        for met in true_run(LINE, ("again", F), 1):
            self.assertEqual((type(met), type(met.path)), (Met, tuple))
            self.assertEqual(list(vars(met)), ["path", "name", "lot"])

    def test_a_result_keeps_what_it_is_given(self):
        path, name, lot = [0], object(), None
        met = Met(path, name, lot)
        self.assertIs(met.path, path)
        self.assertIs(met.name, name)
        self.assertIs(met.lot, lot)
        self.assertEqual(vars(Met(path=1, name=2, lot=3)), {"path": 1, "name": 2, "lot": 3})
        self.assertNotIsInstance(met, tuple)
        self.assertFalse(met == Met(path, name, lot))


class Meanings(unittest.TestCase):
    def test_the_meaning_ends_where_the_program_ends(self):
        for steps in some_steps(4)[::2]:
            for program in PROGRAMS[::3] + LONGER:
                row = meaning_row(steps, program)
                self.assertIs(type(row), tuple)
                self.assertEqual(row, tuple([true_end(steps, program, 1 << s) for s in range(4)]))
                self.assertEqual([next_lot(row, lot) for lot in range(16)],
                                 [true_end(steps, program, lot) for lot in range(16)])

    def test_example(self):
        self.assertEqual(meaning_row(LINE, ("again", F)), (7, 6, 4))
        self.assertEqual(meaning_row(LINE, NOTHING), (1, 2, 4))

    def test_unlike_stand(self):
        self.assertEqual(unlike_stand(LINE, F, NOTHING), 0)
        self.assertEqual(unlike_stand(LINE, F, ("behind", F, F)), 0)
        self.assertIsNone(unlike_stand(LINE, ("behind", F, F), ("behind", F, ("behind", F, F))))
        steps = Steps(3, [("f", (2, 4, 4)), ("g", (2, 4, 5)), ("h", (2, 4, 4))])
        self.assertEqual(unlike_stand(steps, F, G), 2)
        self.assertIsNone(unlike_stand(steps, F, H))

    def test_least_unlike_stand_and_same_ends(self):
        steps = some_steps(3)[2]
        for one in PROGRAMS[:40]:
            for other in PROGRAMS[:40]:
                rows = zip(meaning_row(steps, one), meaning_row(steps, other))
                unlike = [stand for stand, (first, second) in enumerate(rows) if first != second]
                self.assertEqual(unlike_stand(steps, one, other), min(unlike, default=None))
                self.assertIs(same_ends(steps, one, other), not unlike)

    def test_errors_in_order(self):
        self.assertEqual(error_of(meaning_row, LINE, G), (BadProgram, ("name",)))
        for call in (unlike_stand, same_ends):
            self.assertEqual(error_of(call, LINE, G, None), (BadProgram, ("name",)))
            self.assertEqual(error_of(call, LINE, None, G), (BadProgram, ("kind",)))
            self.assertEqual(error_of(call, LINE, F, G), (BadProgram, ("name",)))


def list_of_run(steps, program, lot):
    return list(true_run(steps, program, lot))


if __name__ == "__main__":
    unittest.main()
