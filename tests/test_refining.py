"""[8.1] and [8.3] to [8.7]: sharp refinements, sharp parts, and what shows them."""

import unittest
from itertools import product
from random import Random

from helpers import (
    NO_WHOLES, check_result, drawn_glasses, drawn_program, drawn_steps, error_of, every_glasses, some_steps)
from truealarms.errors import UnlikeStands
from truealarms.families import made_glasses
from truealarms.glasses import Glasses
from truealarms.refining import Refined, SharpPart, refined_fault, sharp_part, sharp_refinement
from truealarms.rows import back_lot
from truealarms.seenends import is_finer
from truealarms.sharpness import unsharp_member
from truealarms.steps import Steps
from truealarms.trueends import meaning_row

NARROW = Glasses(3, (0, 1, 4, 7))
RIVER = Steps(3, [("f", (2, 4, 4))])
# f leads on from stand to stand; so the back lots of 8 of four stands are 12, 14, 15.
LONG = Steps(4, [("f", (2, 4, 8, 8)), ("g", (1, 1, 2, 4))])
DARK = Glasses(4, (8, 15))


def is_sharp_for(glasses, steps):
    return all(unsharp_member(glasses, row) is None for row in steps.rows)


def closed_lots(glasses, steps):
    """All lots that come of the members by back lots and common parts."""
    lots = set(glasses.members)
    while True:
        backs = {back_lot(row, lot) for row in steps.rows for lot in lots}
        wider = lots | backs | {one & other for one in lots | backs for other in lots | backs}
        if wider == lots:
            return tuple(sorted(lots))
        lots = wider


def cases():
    draw = Random(83)
    found = [(glasses, steps) for stands in (1, 2, 3) for glasses in every_glasses(stands)
             for steps in some_steps(stands)[::3] + [Steps(stands, [])]]
    for stands in (4, 5, 6):
        found += [(drawn_glasses(draw, stands), drawn_steps(draw, stands)) for _ in range(25)]
    return found


class Refinement(unittest.TestCase):
    def test_the_example(self):
        refined = sharp_refinement(NARROW, RIVER)
        self.assertEqual((refined.glasses.members, refined.reasons), ((0, 1, 4, 6, 7), ((6, "back", "f", 4),)))
        self.assertEqual(sharp_refinement(steps=RIVER, glasses=NARROW).reasons, refined.reasons)

    def check_reasons(self, glasses, steps, refined):
        """Each added lot has one reason, out of what is had."""
        self.assertEqual((type(refined), type(refined.reasons)), (Refined, tuple))
        had = set(glasses.members)
        for reason in refined.reasons:
            self.assertEqual((type(reason), len(reason)), (tuple, 4))
            lot, how, one, other = reason
            self.assertNotIn(lot, had)
            self.assertIn(other, had)
            if how == "back":
                self.assertEqual(back_lot(steps.row_of(one), other), lot)
            else:
                self.assertEqual((how, one in had, one & other), ("meet", True, lot))
            had.add(lot)
        self.assertEqual(tuple(sorted(had)), refined.glasses.members)
        self.assertIsNone(refined_fault(glasses, steps, refined))

    def test_against_all_finer_sharp_glasses(self):
        for stands in (1, 2, 3):
            families = every_glasses(stands)
            for steps in some_steps(stands)[::2] + [Steps(stands, [])]:
                sharp = [glasses for glasses in families if is_sharp_for(glasses, steps)]
                for glasses in families:
                    refined = sharp_refinement(glasses, steps)
                    self.assertIn(refined.glasses, sharp)
                    for other in sharp:
                        self.assertEqual(is_finer(other, glasses), is_finer(other, refined.glasses))
                    self.check_reasons(glasses, steps, refined)

    def test_closed_lots(self):
        added = 0
        for glasses, steps in cases():
            refined = sharp_refinement(glasses, steps)
            self.assertEqual(refined.glasses.members, closed_lots(glasses, steps))
            self.check_reasons(glasses, steps, refined)
            added = max(added, len(refined.reasons))
        self.assertGreater(added, 8)

    def test_none_if_sharp_already(self):
        for glasses, steps in cases():
            refined = sharp_refinement(glasses, steps)
            self.assertEqual(refined.reasons == (), is_sharp_for(glasses, steps))
            again = sharp_refinement(refined.glasses, steps)
            self.assertEqual((again.glasses, again.reasons), (refined.glasses, ()))

    def test_steps_without_names(self):
        for stands in (1, 2, 3):
            for glasses in every_glasses(stands):
                refined = sharp_refinement(glasses, Steps(stands, []))
                self.assertEqual((refined.glasses, refined.reasons), (glasses, ()))
                part = sharp_part(glasses, Steps(stands, []))
                self.assertEqual((part.glasses, part.lost), (glasses, ()))

    def test_twenty_steps_of_six_stands(self):
        draw = Random(84)
        names = "abcdefghijklmnopqrst"
        steps = drawn_steps(draw, 6, names)
        glasses = made_glasses(6, [3, 9, 34])
        refined = sharp_refinement(glasses, steps)
        self.assertEqual(refined.glasses.members, closed_lots(glasses, steps))
        self.check_reasons(glasses, steps, refined)

    def test_meaning_rows_are_sharp(self):
        draw = Random(85)
        for glasses, steps in cases()[::5]:
            if steps.names:
                refined, part = sharp_refinement(glasses, steps).glasses, sharp_part(glasses, steps).glasses
                for _ in range(5):
                    row = meaning_row(steps, drawn_program(draw, 9))
                    self.assertIsNone(unsharp_member(refined, row))
                    self.assertIsNone(unsharp_member(part, row))

    def test_unlike_stands(self):
        refined = Refined(NARROW, ())
        for glasses, steps in ((NARROW, Steps(2, [])), (made_glasses(2, []), RIVER)):
            self.assertEqual(error_of(sharp_refinement, glasses, steps), (UnlikeStands, ()))
            self.assertEqual(error_of(sharp_part, glasses, steps), (UnlikeStands, ()))
            self.assertEqual(error_of(refined_fault, glasses, steps, refined), (UnlikeStands, ()))

    def test_the_results(self):
        check_result(self, Refined, ["glasses", "reasons"])
        check_result(self, SharpPart, ["glasses", "lost"])


class Fault(unittest.TestCase):
    """DARK is refined for LONG by 12 and 14, which f leads back to, and by 0, to which g leads 8 back."""

    REASONS = ((12, "back", "f", 8), (14, "back", "f", 12), (0, "back", "g", 8))
    WHOLE = Glasses(4, (0, 8, 12, 14, 15))

    def fault(self, reasons, glasses=WHOLE):
        return refined_fault(DARK, LONG, Refined(glasses, reasons))

    def test_right_reasons_in_any_order(self):
        self.assertEqual(sharp_refinement(DARK, LONG).glasses, self.WHOLE)
        self.assertIsNone(self.fault(self.REASONS))
        first, second, third = self.REASONS
        self.assertIsNone(self.fault((third, first, second)))
        self.assertIsNone(self.fault((first, third, second)))
        self.assertEqual(refined_fault(refined=Refined(DARK, ()), steps=LONG, glasses=DARK), (0, "closed"))

    def test_meets(self):
        glasses, steps = Glasses(3, (1, 7)), Steps(3, [("f", (1, 4, 2))])
        self.assertIsNone(refined_fault(glasses, steps, Refined(glasses, ())))
        steps = Steps(3, [("f", (2, 1, 4))])
        right = ((2, "back", "f", 1), (0, "meet", 1, 2))
        whole = Glasses(3, (0, 1, 2, 7))
        self.assertIsNone(refined_fault(glasses, steps, Refined(whole, right)))
        self.assertIsNone(refined_fault(glasses, steps, Refined(whole, (right[0], (0, "meet", 2, 1)))))
        self.assertEqual(refined_fault(glasses, steps, Refined(whole, right[::-1])), (0, "had"))
        self.assertEqual(refined_fault(glasses, steps, Refined(whole, right[:1])), (1, "closed"))
        for wrong, word in (
                ((0, "meet", 1, 1), "wrong"), ((0, "meet", 1, 7), "wrong"), ((3, "meet", 2, 1), "wrong"),
                ((0, "meet", 1, 4), "had"), ((0, "meet", 4, 1), "had"), ((0, "meet", "f", 1), "had"),
                ((0, "meet", True, 2), "had"), ((0, "meet", 2, True), "had"), ((0, "meet", None, 2), "had"),
                ((0, "meet", [1], 2), "had"), ((2, "meet", 4, 4), "lot"), ((0, "back", "f", True), "had")):
            self.assertEqual(refined_fault(glasses, steps, Refined(whole, (right[0], wrong))), (1, word), wrong)

    def test_form(self):
        first, second, _ = self.REASONS
        for wrong in (
                None, [12, "back", "f", 8], (12, "back", "f"), (12, "back", "f", 8, 8), (), "back", 12,
                (12, "Back", "f", 8), (12, None, "f", 8), ("back", 12, "f", 8), (12, "", "f", 8), (12, 12, "f", 8)):
            self.assertEqual(self.fault((wrong, None)), (0, "form"), wrong)
            self.assertEqual(self.fault((first, wrong)), (1, "form"), wrong)
            self.assertEqual(self.fault((first, second, wrong)), (2, "form"), wrong)

    def test_lot(self):
        for lot in NO_WHOLES + (16, 8, 15):
            for rest in (("back", "f", 8), ("back", "none", None), ("meet", None, None)):
                self.assertEqual(self.fault(((lot,) + rest, None)), (0, "lot"), lot)
        self.assertEqual(self.fault(self.REASONS + ((12, "back", "none", 8),)), (3, "lot"))
        self.assertEqual(self.fault(self.REASONS[:1] * 2), (1, "lot"))

    def test_name(self):
        for name in NO_WHOLES + ("h", "F", "", 8, ("f",)):
            for member in (8, 12, None):
                self.assertEqual(self.fault(((12, "back", name, member),)), (0, "name"), name)

    def test_had(self):
        for member in NO_WHOLES + (12, 14, 16, 0):
            self.assertEqual(self.fault(((12, "back", "f", member),)), (0, "had"), member)
        self.assertEqual(self.fault(self.REASONS[1:]), (0, "had"))
        # True is equal to 1, and False to 0; but they are no lots.
        bright, steps = Glasses(2, (0, 1, 3)), Steps(2, [("f", (2, 1)), ("g", (0, 3))])
        for lot, name, member, word in ((2, "f", 1, None), (2, "f", True, "had"), (1, "g", False, "lot"),
                                        (2, "f", False, "had"), (2, "f", 0, "wrong")):
            fault = refined_fault(bright, steps, Refined(made_glasses(2, [0, 1, 2]), ((lot, "back", name, member),)))
            self.assertEqual(fault, None if word is None else (0, word))

    def test_wrong(self):
        for lot in (0, 1, 10, 14):
            self.assertEqual(self.fault(((lot, "back", "f", 8),)), (0, "wrong"), lot)
        self.assertEqual(self.fault(((12, "back", "g", 8),)), (0, "wrong"))
        self.assertEqual(self.fault((self.REASONS[0], (14, "meet", 12, 15))), (1, "wrong"))

    def test_closed_ahead_of_glasses(self):
        for many in range(3):
            for glasses in (self.WHOLE, DARK, made_glasses(3, [])):
                self.assertEqual(self.fault(self.REASONS[:many], glasses), (many, "closed"))

    def test_glasses(self):
        for glasses in (DARK, Glasses(4, (0, 8, 12, 15)), made_glasses(4, list(range(16))), made_glasses(3, []),
                        made_glasses(5, list(self.WHOLE.members))):
            self.assertEqual(self.fault(self.REASONS, glasses), (3, "glasses"))
        sharp = made_glasses(4, [])
        self.assertIsNone(refined_fault(sharp, LONG, Refined(sharp, ())))
        self.assertEqual(refined_fault(sharp, LONG, Refined(made_glasses(3, []), ())), (0, "glasses"))
        self.assertEqual(refined_fault(sharp, LONG, Refined(Glasses(5, (15, 31)), ())), (0, "glasses"))

    def test_all_changes_by_one_item(self):
        lots = list(range(-1, 17)) + [True, None]
        right = 0
        for place in range(3):
            for how, one, other in product(("back", "meet"), ("f", "g", 8, 12, 15), (0, 8, 12, 14, 15)):
                for lot in lots:
                    reasons = list(self.REASONS)
                    reasons[place] = (lot, how, one, other)
                    fault = self.fault(tuple(reasons))
                    right += fault is None
                    self.assertEqual(fault, self.fault_by_document(reasons))
        self.assertEqual(right, 3)

    def fault_by_document(self, reasons):
        had = list(DARK.members)
        for place, (lot, how, one, other) in enumerate(reasons):
            if type(lot) is not int or not 0 <= lot <= 15 or lot in had:
                return (place, "lot")
            if how == "back" and one not in ("f", "g"):
                return (place, "name")
            if other not in had or how == "meet" and one not in had:
                return (place, "had")
            if lot != (one & other if how == "meet" else back_lot(LONG.row_of(one), other)):
                return (place, "wrong")
            had.append(lot)
        if len(closed_lots(made_glasses(4, had), LONG)) != len(had):
            return (len(reasons), "closed")
        return None if tuple(sorted(had)) == self.WHOLE.members else (len(reasons), "glasses")


class Part(unittest.TestCase):
    def test_the_example(self):
        part = sharp_part(NARROW, RIVER)
        self.assertEqual((part.glasses.members, part.lost), ((0, 1, 7), ((4, ("f",), 6),)))
        self.assertEqual(sharp_part(steps=RIVER, glasses=NARROW).lost, part.lost)

    def test_against_all_glasses_of_some_members(self):
        for stands in (1, 2, 3):
            families = every_glasses(stands)
            for steps in some_steps(stands)[::2]:
                sharp = [glasses for glasses in families if is_sharp_for(glasses, steps)]
                for glasses in families:
                    part = sharp_part(glasses, steps).glasses
                    self.assertIn(part, sharp)
                    for other in sharp:
                        self.assertEqual(is_finer(glasses, other), is_finer(part, other))

    def way_by_document(self, glasses, steps, member):
        """The shortest way back to a lot that is no member, and of these the least one, by trying all ways."""
        reached = {(): member}
        while True:
            out = sorted([names for names in reached if reached[names] not in glasses])
            if out:
                return (member, out[0], reached[out[0]])
            seen, further = set(), {}
            for names in sorted(reached):
                for name in steps.names:
                    back = back_lot(steps.row_of(name), reached[names])
                    further[names + (name,)] = back
                    seen.add(back)
            if len(further) > 3000:
                return None
            reached = further

    def test_what_is_lost(self):
        longest = 0
        draw = Random(86)
        some = [(glasses, steps) for glasses, steps in cases() if len(steps.names) == 2]
        some += [(drawn_glasses(draw, 3), drawn_steps(draw, 3, ("b", "aa", "a"))) for _ in range(60)]
        for glasses, steps in some[::2]:
            part = sharp_part(glasses, steps)
            self.assertEqual((type(part), type(part.lost)), (SharpPart, tuple))
            gone = [line[0] for line in part.lost]
            self.assertEqual(gone, [member for member in glasses.members if member not in part.glasses])
            for line in part.lost:
                self.assertEqual((type(line), type(line[1])), (tuple, tuple))
                self.assertEqual(line, self.way_by_document(glasses, steps, line[0]))
                longest = max(longest, len(line[1]))
        self.assertGreaterEqual(longest, 2)

    def test_the_shortest_way_ahead_of_the_least(self):
        # By a the member 1 stays as it is, by b it is led to 2, which is no member.
        steps = Steps(2, [("b", (2, 1)), ("a", (1, 2))])
        self.assertEqual(sharp_part(Glasses(2, (1, 3)), steps).lost, ((1, ("b",), 2),))
        steps = Steps(2, [("b", (2, 1)), ("a", (2, 1))])
        self.assertEqual(sharp_part(Glasses(2, (1, 3)), steps).lost, ((1, ("a",), 2),))
        steps = Steps(2, [("b", (2, 1)), ("ab", (2, 1)), ("aa", (1, 2))])
        self.assertEqual(sharp_part(Glasses(2, (1, 3)), steps).lost, ((1, ("ab",), 2),))

    def test_long_ways(self):
        steps = Steps(6, [("f", (2, 4, 8, 16, 32, 32))])
        glasses = made_glasses(6, [32, 48, 56, 60])
        part = sharp_part(glasses, steps)
        self.assertEqual(part.glasses.members, (63,))
        self.assertEqual(part.lost, (
            (32, ("f",) * 4, 62), (48, ("f",) * 3, 62), (56, ("f",) * 2, 62), (60, ("f",), 62)))


if __name__ == "__main__":
    unittest.main()
