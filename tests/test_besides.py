"""[8.2] and [8.7]: what two glasses have between them and in common."""

import unittest
from random import Random

from helpers import drawn_glasses, drawn_steps, error_of, every_glasses
from truealarms.besides import both_glasses, common_glasses
from truealarms.errors import UnlikeStands
from truealarms.families import made_glasses
from truealarms.glasses import Glasses
from truealarms.refining import sharp_part, sharp_refinement
from truealarms.seenends import is_finer


class Besides(unittest.TestCase):
    def check_both(self, one, other):
        due = sorted({member & further for member in one.members for further in other.members})
        both = both_glasses(one, other)
        self.assertEqual(both, Glasses(one.stands, due))
        # Made of the members of both, these are the least finer ones.
        self.assertEqual(both, made_glasses(one.stands, sorted({*one.members, *other.members})))
        self.assertEqual(both_glasses(other, one), both)

    def check_common(self, one, other):
        due = [member for member in range(one.every + 1) if member in one and member in other]
        common = common_glasses(one, other)
        self.assertEqual((common.stands, common.members), (one.stands, tuple(due)))
        self.assertEqual(common_glasses(other, one), common)

    def test_some(self):
        one, other = Glasses(3, (0, 1, 4, 7)), Glasses(3, (2, 6, 7))
        self.assertEqual(both_glasses(one, other).members, (0, 1, 2, 4, 6, 7))
        self.assertEqual(common_glasses(one, other).members, (7,))
        self.assertEqual(both_glasses(other=other, one=one), both_glasses(one, other))
        self.assertEqual(common_glasses(other=one, one=one), one)
        self.assertEqual(both_glasses(one, one), one)

    def test_all_of_up_to_three_stands(self):
        for stands in (1, 2, 3):
            families = every_glasses(stands)
            for one in families:
                for other in families:
                    self.check_both(one, other)
                    self.check_common(one, other)

    def test_the_least_finer_ones_of_two_stands(self):
        families = every_glasses(2)
        for one in families:
            for other in families:
                finer = [glasses for glasses in families if is_finer(glasses, one) and is_finer(glasses, other)]
                both = both_glasses(one, other)
                self.assertIn(both, finer)
                self.assertTrue(all(is_finer(glasses, both) for glasses in finer))

    def test_drawn_ones_of_more_stands(self):
        draw = Random(82)
        for stands in (4, 5, 6):
            for _ in range(30):
                one, other = drawn_glasses(draw, stands), drawn_glasses(draw, stands)
                self.check_both(one, other)
                self.check_common(one, other)

    def test_unlike_stands(self):
        for stands, others in ((2, 3), (3, 2), (1, 6)):
            one, other = made_glasses(stands, [0]), made_glasses(others, [0])
            for call in (both_glasses, common_glasses):
                self.assertEqual(error_of(call, one, other), (UnlikeStands, ()))


class WithSteps(unittest.TestCase):
    """[8.7]: refinements and sharp parts of both and of common glasses."""

    def check_steps(self, one, other, steps):
        refined = sharp_refinement(both_glasses(one, other), steps).glasses
        parts = [sharp_refinement(glasses, steps).glasses for glasses in (one, other)]
        self.assertEqual(refined, both_glasses(*parts))
        part = sharp_part(common_glasses(one, other), steps).glasses
        parts = [sharp_part(glasses, steps).glasses for glasses in (one, other)]
        self.assertEqual(part, common_glasses(*parts))

    def test_up_to_three_stands(self):
        draw = Random(87)
        for stands in (1, 2, 3):
            families = every_glasses(stands)
            for one in families:
                for other in families[stands % 3::1 + 4 * (stands == 3)]:
                    self.check_steps(one, other, drawn_steps(draw, stands, ("f", "g")[:draw.randrange(3)]))

    def test_more_stands(self):
        draw = Random(88)
        for stands in (4, 5, 6):
            for _ in range(20):
                one, other = drawn_glasses(draw, stands), drawn_glasses(draw, stands)
                self.check_steps(one, other, drawn_steps(draw, stands))


if __name__ == "__main__":
    unittest.main()
