"""[7.8] and [7.9]: counters, and glasses whose members can be joined."""

import unittest
from random import Random

from helpers import (
    NO_WHOLES, check_result, drawn_glasses, drawn_program, drawn_steps, error_of, every_glasses)
from truealarms.counters import Counter, counter_in, counter_of, fusing_counter, ungathered_pair
from truealarms.errors import BadRewriting, NoCounter
from truealarms.families import made_glasses
from truealarms.fusing import fused_steps, split_by
from truealarms.glasses import Glasses
from truealarms.programs import check_program
from truealarms.rewritings import letters_of, rewriting_names, rewriting_pair, verdict_of
from truealarms.seenends import seen_end
from truealarms.steps import Steps

SHARPER = ("spread_last", "unroll", "slide_one", "slide_two", "part_again", "halve_again")
F = ("step", "f")
G = ("step", "g")


def is_gathered(glasses):
    return all(one | other in glasses for one in glasses.members for other in glasses.members)


def families():
    """All glasses of up to three stands, and others of more stands."""
    draw = Random(781)
    return [glasses for stands in range(1, 7) for glasses in every_glasses(stands)] + [
        drawn_glasses(draw, stands) for stands in (4, 5, 6) for _ in range(20)]


class Counters(unittest.TestCase):
    def check_counter(self, name, counter):
        self.assertIs(type(counter), Counter)
        self.assertEqual((type(counter.glasses), type(counter.steps), type(counter.programs)), (Glasses, Steps, tuple))
        self.assertEqual(len(counter.programs), letters_of(name))
        self.assertEqual(counter.glasses.stands, counter.steps.stands)
        for program in counter.programs:
            self.assertEqual(check_program(counter.steps, program), program)
        left, right = rewriting_pair(name, counter.programs)
        seen = seen_end(counter.glasses, counter.steps, left, counter.start)
        other = seen_end(counter.glasses, counter.steps, right, counter.start)
        self.assertEqual((other & ~seen, other != seen), (0, True), name)

    def test_each_sharper_rewriting(self):
        for name in SHARPER:
            self.check_counter(name, counter_of(name))
            self.check_counter(name, counter_of(name=name))

    def test_the_alike_ones_have_none(self):
        alike = [name for name in rewriting_names() if name not in SHARPER]
        self.assertEqual(len(alike), 12)
        for name in alike:
            self.assertEqual(error_of(counter_of, name), (NoCounter, ()), name)

    def test_wrong_names_come_first(self):
        for name in NO_WHOLES + ("Unroll", "alike", "", ["unroll"], ("drop_first",)):
            self.assertEqual(error_of(counter_of, name), (BadRewriting, ("name",)), name)

    def test_in_given_glasses(self):
        found = set()
        for glasses in families():
            counter = counter_in(glasses)
            self.assertEqual(counter is None, is_gathered(glasses))
            if counter is not None:
                self.assertEqual(counter.glasses, glasses)
                self.check_counter("spread_last", counter)
            found.add((glasses.stands, counter is None))
        self.assertEqual(len(found), 10)

    def test_the_result(self):
        check_result(self, Counter, ["glasses", "steps", "programs", "start"])


class Gathered(unittest.TestCase):
    def test_the_first_couple(self):
        self.assertIsNone(ungathered_pair(Glasses(3, (0, 1, 4, 5, 7))))
        self.assertIsNone(ungathered_pair(Glasses(1, (1,))))
        self.assertEqual(ungathered_pair(Glasses(3, (0, 1, 4, 7))), (1, 4))
        self.assertEqual(ungathered_pair(Glasses(3, (0, 1, 2, 4, 6, 7))), (1, 2))
        self.assertEqual(ungathered_pair(Glasses(3, (0, 1, 2, 3, 4, 7))), (1, 4))
        self.assertEqual(ungathered_pair(Glasses(3, (2, 3, 6, 7))), None)

    def test_against_the_document(self):
        for glasses in families():
            couples = sorted([(one, other) for one in glasses.members for other in glasses.members
                              if one | other not in glasses])
            self.assertEqual(ungathered_pair(glasses), couples[0] if couples else None)

    def test_all_is_seen_alike_in_gathered_glasses(self):
        draw = Random(782)
        gathered = [glasses for stands in (1, 2, 3) for glasses in every_glasses(stands) if is_gathered(glasses)]
        gathered += [made_glasses(4, lots) for lots in ([], [0, 1, 3, 7], [1, 3, 5, 7], [3, 12, 0], list(range(16)))]
        for glasses in gathered:
            self.assertTrue(is_gathered(glasses))
            steps = drawn_steps(draw, glasses.stands)
            for name in rewriting_names():
                programs = [drawn_program(draw, 3) for _ in range(letters_of(name))]
                left, right = rewriting_pair(name, programs)
                for lot in range(glasses.every + 1):
                    self.assertEqual(seen_end(glasses, steps, left, lot), seen_end(glasses, steps, right, lot), name)

    def test_splits_and_single_stands_in_gathered_glasses(self):
        draw = Random(783)
        gathered = [glasses for stands in (1, 2, 3) for glasses in every_glasses(stands) if is_gathered(glasses)]
        for glasses in gathered:
            for _ in range(4):
                program, steps = drawn_program(draw, 6), drawn_steps(draw, glasses.stands)
                self.check_split(draw, glasses, steps, program)
                for lot in range(1, glasses.every + 1):
                    union = 0
                    for stand in range(glasses.stands):
                        if lot >> stand & 1:
                            union |= seen_end(glasses, steps, program, 1 << stand)
                    self.assertEqual(seen_end(glasses, steps, program, lot), union)

    def check_split(self, draw, glasses, steps, program):
        kept = draw.randrange(glasses.every + 1)
        rest = glasses.every & ~kept | draw.randrange(glasses.every + 1)
        for name, lot in (("low", kept), ("high", rest)):
            steps = steps.with_row(name, [lot & 1 << stand for stand in range(glasses.stands)])
        split = split_by(steps, program, "low", "high")
        for lot in range(glasses.every + 1):
            self.assertEqual(seen_end(glasses, steps, split, lot), seen_end(glasses, steps, program, lot))

    def test_fused_steps_may_be_sharper_in_gathered_glasses(self):
        glasses, steps = Glasses(2, (0, 3)), Steps(2, [("f", (1, 1)), ("g", (0, 3))])
        self.assertTrue(is_gathered(glasses))
        fused = fused_steps(steps, "f", "g", "h")
        self.assertEqual(seen_end(glasses, fused, ("behind", F, G), 1), 3)
        self.assertEqual(seen_end(glasses, fused, ("step", "h"), 1), 0)


class Fusing(unittest.TestCase):
    def test_in_given_glasses(self):
        found = set()
        for glasses in families():
            counter = fusing_counter(glasses)
            alone = glasses.members == (glasses.every,) or len(glasses) == glasses.every + 1
            self.assertEqual(counter is None, alone)
            if counter is not None:
                self.check_counter(glasses, counter)
            found.add((glasses.stands, counter is None))
        # Of one stand there are only the glasses of ALL alone and those of all lots.
        self.assertEqual(len(found), 11)

    def check_counter(self, glasses, counter):
        self.assertEqual((counter.glasses, type(counter)), (glasses, Counter))
        (first, one), (second, other) = counter.programs
        self.assertEqual((first, second, type(counter.programs)), ("step", "step", tuple))
        self.assertIn(one, counter.steps)
        self.assertIn(other, counter.steps)
        fused = fused_steps(counter.steps, one, other, "new")
        seen = seen_end(glasses, fused, ("step", "new"), counter.start)
        two = seen_end(glasses, fused, ("behind", *counter.programs), counter.start)
        self.assertEqual((seen & ~two, seen != two), (0, True))


if __name__ == "__main__":
    unittest.main()
