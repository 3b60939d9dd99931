"""[10.6]: facts about glasses in which steps are sharp."""

import unittest
from random import Random

from helpers import (
    NO_SEQUENCES, NO_WHOLES, check_result, drawn_steps, error_of, every_glasses, fits, some_facts, some_steps)
from truealarms.errors import BadFact, NoneFits
from truealarms.factsback import coarsest_glasses, finest_glasses, misfit_of
from truealarms.glasses import Glasses
from truealarms.refining import sharp_part, sharp_refinement
from truealarms.sharpfacts import Between, sharp_fitting
from truealarms.sharpness import unsharp_member
from truealarms.steps import Steps

RIVER = Steps(3, [("f", (2, 4, 4))])


class SharpFitting(unittest.TestCase):
    def check_facts(self, steps, facts, sharp):
        fitting = [glasses for glasses in sharp if fits(glasses, facts)]
        between = sharp_fitting(steps, facts)
        self.assertEqual(between is None, fitting == [])
        refined = sharp_refinement(coarsest_glasses(steps.stands, facts), steps).glasses
        part = sharp_part(finest_glasses(steps.stands, facts), steps).glasses
        self.assertEqual((fits(refined, facts), fits(part, facts)), (fitting != [],) * 2)
        if between is not None:
            self.assertIs(type(between), Between)
            self.assertEqual((between.coarsest, between.finest), (refined, part))
            for glasses in sharp:
                members = set(glasses.members)
                within = set(between.coarsest.members) <= members <= set(between.finest.members)
                self.assertEqual(glasses in fitting, within)
        return between is None

    def test_against_all_glasses(self):
        draw = Random(116)
        found = []
        for stands in (1, 2, 3):
            families = every_glasses(stands)
            facts = [some for some in some_facts(stands, 60) if misfit_of(stands, some) is None]
            for steps in some_steps(stands)[::3] + [drawn_steps(draw, stands), Steps(stands, [])]:
                sharp = [glasses for glasses in families
                         if all(unsharp_member(glasses, row) is None for row in steps.rows)]
                found += [self.check_facts(steps, some, sharp) for some in facts]
        self.assertGreater(min(found.count(True), found.count(False)), 50)

    def test_some(self):
        between = sharp_fitting(RIVER, [(4, 4)])
        self.assertEqual((between.coarsest.members, between.finest.members), ((4, 6, 7), tuple(range(8))))
        between = sharp_fitting(facts=[[4, 4], [2, 6]], steps=RIVER)
        self.assertEqual((between.coarsest, between.finest), (Glasses(3, (4, 6, 7)), Glasses(3, (0, 1, 4, 5, 6, 7))))
        # The member 4 is led back to 6, so 2 is not rounded to 7.
        self.assertIsNone(sharp_fitting(RIVER, [(4, 4), (2, 7)]))

    def test_steps_without_names(self):
        between = sharp_fitting(Steps(3, []), [(2, 6), (1, 7)])
        self.assertEqual((between.coarsest.members, between.finest.members), ((6, 7), (0, 4, 6, 7)))

    def test_none_fits(self):
        for stands in (1, 2, 3, 5):
            for facts in some_facts(stands, 40):
                misfit = misfit_of(stands, facts)
                due = None if misfit is None else (NoneFits, (misfit.place, misfit.other))
                for steps in (Steps(stands, []), Steps(stands, [("f", (1,) * stands)])):
                    self.assertEqual(error_of(sharp_fitting, steps, facts), due)

    def test_wrong_facts(self):
        for facts in NO_SEQUENCES + ([(1, 7)] * 65,):
            self.assertEqual(error_of(sharp_fitting, RIVER, facts), (BadFact, (None,)), facts)
        for lot in NO_WHOLES + (8,):
            self.assertEqual(error_of(sharp_fitting, RIVER, [(3, 1), (1, lot)]), (BadFact, (1,)), lot)

    def test_the_result(self):
        check_result(self, Between, ["coarsest", "finest"])


if __name__ == "__main__":
    unittest.main()
