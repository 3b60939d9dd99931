"""[10.10]: benches."""

import unittest
from random import Random

from helpers import (
    NO_SEQUENCES, NO_WHOLES, drawn_glasses, drawn_program, drawn_row, drawn_steps, error_of)
from truealarms.alarms import alarm_of
from truealarms.bench import Bench
from truealarms.edits import apply_edits
from truealarms.errors import (
    BadEdit, BadLot, BadProgram, NoDeed, NoMember, Spoilt, UnlikeStands)
from truealarms.families import made_glasses
from truealarms.glasses import Glasses
from truealarms.steps import Steps

F = ("step", "f")
TWICE = ("behind", F, F)
NARROW = Glasses(3, (0, 1, 4, 7))
RIVER = Steps(3, [("f", (2, 4, 4)), ("g", (1, 1, 1))])
WRONG_EDITS = [
    (edit, "kind") for edit in NO_SEQUENCES + ((), ("member",), ("row", "f"), ("none", 1), (["drop"], 1))] + [
    (("member", 8), "lot"), (["drop", True], "lot"), (("row", "h", None), "name"), (("row", "f", (1, 1)), "row")]


def state_of(bench):
    return bench.present_glasses, bench.present_steps, bench.log


class Changes(unittest.TestCase):
    def test_the_beginning(self):
        for bench in (Bench(NARROW, RIVER), Bench(steps=RIVER, glasses=NARROW)):
            self.assertEqual(state_of(bench), (NARROW, RIVER, ()))
            self.assertEqual([name for name in dir(bench) if not name.startswith("_")], [
                "change", "log", "present_glasses", "present_steps", "take_back", "trial", "verdict"])

    def test_unlike_stands(self):
        self.assertEqual(error_of(Bench, NARROW, Steps(2, [])), (UnlikeStands, ()))
        self.assertEqual(error_of(Bench, made_glasses(2, []), RIVER), (UnlikeStands, ()))

    def test_deeds_and_the_log(self):
        bench, row = Bench(NARROW, RIVER), [1, 2, 4]
        edits = [["member", 6], ("drop", 4), ["row", "g", row], ("member", 7)]
        for edit in edits:
            self.assertIsNone(bench.change(edit))
        due = (("member", 6), ("drop", 4), ("row", "g", (1, 2, 4)), ("member", 7))
        self.assertEqual(bench.log, due)
        self.assertEqual([type(edit) for edit in bench.log + bench.log[2][2:]], [tuple] * 5)
        self.assertEqual(bench.present_glasses.members, (0, 1, 6, 7))
        self.assertEqual(bench.present_steps.row_of("g"), (1, 2, 4))
        row[0], edits[0][1] = 7, 2
        self.assertEqual(bench.log, due)
        self.assertEqual((bench.present_glasses, bench.present_steps), apply_edits(NARROW, RIVER, due))
        for many in (3, 2, 1, 0):
            self.assertIsNone(bench.take_back())
            self.assertEqual(state_of(bench), (*apply_edits(NARROW, RIVER, due[:many]), due[:many]))
        self.assertEqual(error_of(bench.take_back), (NoDeed, ()))
        self.assertEqual(state_of(bench), (NARROW, RIVER, ()))
        self.assertIsNone(bench.change(edit=("drop", 4)))
        self.assertEqual(bench.log, (("drop", 4),))

    def test_edits_that_change_nothing(self):
        bench = Bench(NARROW, RIVER)
        edits = (("member", 4), ("row", "f", (2, 4, 4)), ("member", 7))
        for edit in edits:
            bench.change(edit)
        self.assertEqual(state_of(bench), (NARROW, RIVER, edits))
        bench.take_back()
        self.assertEqual(state_of(bench), (NARROW, RIVER, edits[:2]))

    def test_many_standing_edits(self):
        bench = Bench(NARROW, RIVER)
        for k in range(60):
            bench.change(("member", k % 8))
        self.assertEqual(len(bench.log), 60)
        for _ in range(60):
            bench.take_back()
        self.assertEqual(state_of(bench), (NARROW, RIVER, ()))

    def test_what_is_refused_changes_nothing(self):
        bench = Bench(NARROW, RIVER)
        bench.change(("member", 6))
        before = state_of(bench)
        for wrong, word in WRONG_EDITS:
            self.assertEqual(error_of(bench.change, wrong), (BadEdit, (0, word)), wrong)
            self.assertEqual(state_of(bench), before)
        for lot in (0, 2, 7):
            self.assertEqual(error_of(bench.change, ("drop", lot)), (Spoilt, (0,)))
            self.assertEqual(state_of(bench), before)

    def test_properties_are_not_set(self):
        bench = Bench(NARROW, RIVER)
        for name in ("present_glasses", "present_steps", "log"):
            with self.assertRaises(AttributeError):
                setattr(bench, name, ())

    def test_two_benches_side_by_side(self):
        one, other = Bench(NARROW, RIVER), Bench(NARROW, RIVER)
        one.change(("member", 6))
        self.assertEqual(state_of(other), (NARROW, RIVER, ()))
        other.change(("row", "g", (7, 7, 7)))
        self.assertEqual((one.log, other.log), ((("member", 6),), (("row", "g", (7, 7, 7)),)))
        one.take_back()
        self.assertEqual(state_of(one), (NARROW, RIVER, ()))
        self.assertEqual(other.present_steps.row_of("g"), (7, 7, 7))
        self.assertEqual(error_of(one.take_back), (NoDeed, ()))

    def test_what_was_passed_in_stays(self):
        glasses, steps = Glasses(3, (0, 1, 4, 7)), Steps(3, [("f", (2, 4, 4)), ("g", (1, 1, 1))])
        bench = Bench(glasses, steps)
        for edit in (("member", 6), ("drop", 4), ("row", "f", (0, 0, 0))):
            bench.change(edit)
        self.assertEqual((glasses, steps), (NARROW, RIVER))

    def test_drawn_deeds(self):
        draw = Random(1010)
        taken = refused = 0
        for _ in range(40):
            stands = draw.randrange(1, 5)
            glasses, steps = drawn_glasses(draw, stands), drawn_steps(draw, stands)
            bench, log = Bench(glasses, steps), []
            states = [(glasses, steps)]
            for _ in range(25):
                word = draw.choice(("member", "drop", "drop", "row", "back"))
                if word == "back":
                    self.assertEqual(error_of(bench.take_back), None if log else (NoDeed, ()))
                    if log:
                        taken += 1
                        log.pop()
                        states.pop()
                else:
                    edit = (word, draw.randrange(1 << stands))
                    if word == "row":
                        edit = (word, "g", drawn_row(draw, stands))
                    error = error_of(apply_edits, *states[-1], [edit])
                    self.assertEqual(error_of(bench.change, edit) if error else bench.change(edit), error)
                    if error is None:
                        states.append(apply_edits(*states[-1], [edit]))
                        log.append(edit)
                    refused += error is not None
                self.assertEqual(state_of(bench), (*states[-1], tuple(log)))
        self.assertGreater(min(taken, refused), 30)


class Verdicts(unittest.TestCase):
    def test_some(self):
        bench = Bench(NARROW, RIVER)
        self.assertEqual([bench.verdict(TWICE, 1, wish) for wish in (0, 1, 4, 7)], ["true", "true", "false", "none"])
        bench.change(("member", 6))
        self.assertEqual(bench.verdict(wish=4, lot=1, program=TWICE), "none")
        bench.take_back()
        self.assertEqual(bench.verdict(TWICE, 1, 4), "false")

    def test_trials(self):
        bench = Bench(NARROW, RIVER)
        for edits in ([("member", 6)], (["member", 2],), [("row", "f", [4, 4, 4])]):
            self.assertEqual(bench.trial(edits, TWICE, 1, 4), "none")
            self.assertEqual(state_of(bench), (NARROW, RIVER, ()))
        self.assertEqual(bench.trial([], TWICE, 1, 4), "false")
        self.assertEqual(bench.trial(wish=6, lot=1, program=TWICE, edits=[("member", 6), ("drop", 4)]), "none")
        bench.change(("drop", 4))
        self.assertEqual(bench.trial([("member", 6)], TWICE, 1, 6), "none")
        self.assertEqual(error_of(bench.trial, [("drop", 4)], TWICE, 1, 7), (Spoilt, (0,)))
        self.assertEqual(bench.log, (("drop", 4),))

    def test_against_alarm_of(self):
        draw = Random(1011)
        words = set()
        for _ in range(150):
            stands = draw.randrange(2, 5)
            glasses, steps, program = drawn_glasses(draw, stands), drawn_steps(draw, stands), drawn_program(draw, 7)
            bench, lot = Bench(glasses, steps), draw.randrange(1 << stands)
            edits = [("member", draw.randrange(1 << stands)) for _ in range(draw.randrange(4))]
            edits.append(("row", "f", drawn_row(draw, stands)))
            changed = apply_edits(glasses, steps, edits)
            for wish in changed[0].members:
                before = state_of(bench)
                due = alarm_of(*changed, program, lot, wish)
                self.assertEqual(bench.trial(edits, program, lot, wish), due)
                self.assertEqual(state_of(bench), before)
                words.add(due)
            for wish in glasses.members:
                self.assertEqual(bench.verdict(program, lot, wish), alarm_of(glasses, steps, program, lot, wish))
            for edit in edits:
                bench.change(edit)
            for wish in changed[0].members:
                self.assertEqual(bench.verdict(program, lot, wish), alarm_of(*changed, program, lot, wish))
        self.assertEqual(words, {"none", "true", "false"})

    def check_wrong(self, call, bench):
        """What alarm_of raises, in its order."""
        before = state_of(bench)
        for program, what in ((None, "kind"), (["step", "f"], "kind"), (("step", "h"), "name")):
            self.assertEqual(error_of(call, program, 9, 9), (BadProgram, (what,)))
        for lot in NO_WHOLES + (8,):
            self.assertEqual(error_of(call, F, lot, 2), (BadLot, ()), lot)
            self.assertEqual(error_of(call, F, 1, lot), (BadLot, ()), lot)
        self.assertEqual(error_of(call, F, 1, 2), (NoMember, ()))
        self.assertIsNone(error_of(call, F, 1, 4))
        self.assertEqual(state_of(bench), before)

    def test_errors_of_verdicts(self):
        bench = Bench(NARROW, RIVER)
        bench.change(("member", 6))
        self.check_wrong(bench.verdict, bench)

    def test_errors_of_trials(self):
        bench = Bench(NARROW, RIVER)
        bench.change(("member", 6))
        before = state_of(bench)
        self.check_wrong(lambda *given: bench.trial([("member", 5)], *given), bench)
        for edits in NO_SEQUENCES + ([("member", 1)] * 13,):
            self.assertEqual(error_of(bench.trial, edits, None, 9, 9), (BadEdit, (0, "many")), edits)
        for wrong, word in WRONG_EDITS:
            self.assertEqual(error_of(bench.trial, [("drop", 0), wrong], None, 9, 9), (BadEdit, (1, word)), wrong)
        self.assertEqual(error_of(bench.trial, [("drop", 4), ("drop", 4)], None, 9, 9), (Spoilt, (1,)))
        # The wish is a member ahead of the edits, but not behind them.
        self.assertEqual(error_of(bench.trial, [("drop", 4)], F, 1, 4), (NoMember, ()))
        self.assertIsNone(error_of(bench.trial, [("member", 2)], F, 1, 2))
        self.assertEqual(error_of(bench.verdict, F, 1, 2), (NoMember, ()))
        self.assertEqual(state_of(bench), before)


if __name__ == "__main__":
    unittest.main()
