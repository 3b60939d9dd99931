"""[8.8] to [8.15]: even glasses, cells and partings."""

import unittest
from itertools import product
from random import Random

from helpers import (
    NO_SEQUENCES, NO_WHOLES, all_rows, check_result, drawn_glasses, drawn_program, drawn_row, drawn_steps, error_of,
    every_glasses, some_rows, some_steps)
from truealarms.errors import BadCells, BadStands, NotEven, UnlikeStands
from truealarms.families import made_glasses
from truealarms.glasses import Glasses
from truealarms.parting import (
    Parted, cells_of, cells_refined, check_cells, even_glasses, even_refinement, glasses_of_cells, parted_fault)
from truealarms.refining import sharp_refinement
from truealarms.seenends import is_finer
from truealarms.sharpness import unsharp_member
from truealarms.steps import Steps
from truealarms.trueends import meaning_row

RIVER = Steps(3, [("f", (2, 4, 4))])
NARROW = Glasses(3, (0, 1, 4, 7))


def partings(stands):
    """All partings, as lists of cells."""
    if stands == 0:
        return [[]]
    found = []
    for cells in partings(stands - 1):
        found.append(cells + [1 << stands - 1])
        for place in range(len(cells)):
            found.append(cells[:place] + [cells[place] | 1 << stands - 1] + cells[place + 1:])
    return found


def is_even(glasses):
    return all(glasses.every - member in glasses for member in glasses.members)


def is_no_coarser(cells, others):
    return all(any(cell & ~other == 0 for other in others) for cell in cells)


def are_steady(cells, rows):
    for row, cell, goal in product(rows, cells, cells):
        hits = {row[stand] & goal != 0 for stand in range(len(row)) if cell >> stand & 1}
        if len(hits) > 1:
            return False
    return True


def drawn_cells(draw, stands):
    cells = draw.choice(partings(stands))
    draw.shuffle(cells)
    return cells


class Cells(unittest.TestCase):
    def test_any_order_as_list_and_tuple(self):
        for stands in range(1, 6):
            for cells in partings(stands):
                for order in (cells, cells[::-1], sorted(cells)):
                    for kind in (list, tuple):
                        checked = check_cells(stands, kind(order))
                        self.assertEqual((type(checked), checked), (tuple, tuple(sorted(cells))))
        self.assertEqual(check_cells(cells=[4, 3], v=3), (3, 4))

    def test_given_cells_stay(self):
        cells = [4, 1, 2]
        check_cells(3, cells)
        glasses_of_cells(3, cells)
        cells_refined(cells, RIVER)
        self.assertEqual(cells, [4, 1, 2])

    CALLS = (check_cells, glasses_of_cells)

    def test_stands_come_first(self):
        for call in self.CALLS:
            for stands in NO_WHOLES + (0, 7):
                for cells in ([1], None, [0]):
                    self.assertEqual(error_of(call, stands, cells), (BadStands, ()), stands)

    def check_words(self, call):
        for cells in NO_SEQUENCES:
            self.assertEqual(error_of(call, cells), (BadCells, ("cells", 0)), cells)
        for lot in NO_WHOLES + (0, 8):
            self.assertEqual(error_of(call, [lot, 7, 7]), (BadCells, ("lot", 0)), lot)
            self.assertEqual(error_of(call, (1, lot, 1)), (BadCells, ("lot", 1)), lot)
            self.assertEqual(error_of(call, [3, 4, lot]), (BadCells, ("lot", 2)), lot)
        self.assertEqual(error_of(call, [1, 3, 0]), (BadCells, ("twice", 1)))
        self.assertEqual(error_of(call, (1, 2, 2)), (BadCells, ("twice", 2)))
        self.assertEqual(error_of(call, [7, 7, True]), (BadCells, ("twice", 1)))
        self.assertEqual(error_of(call, [4, 3, 1]), (BadCells, ("twice", 2)))
        self.assertEqual(error_of(call, []), (BadCells, ("all", 0)))
        self.assertEqual(error_of(call, (2, 4)), (BadCells, ("all", 0)))
        self.assertEqual(error_of(call, [1]), (BadCells, ("all", 1)))
        self.assertEqual(error_of(call, [4, 1]), (BadCells, ("all", 1)))
        self.assertEqual(error_of(call, [3]), (BadCells, ("all", 2)))
        self.assertIsNone(error_of(call, [7]))

    def test_each_word_with_its_place(self):
        self.check_words(lambda cells: check_cells(3, cells))
        self.check_words(lambda cells: glasses_of_cells(3, cells))
        self.check_words(lambda cells: cells_refined(cells, RIVER))
        self.check_words(lambda cells: parted_fault(cells, RIVER, Parted((7,), ())))

    def test_six_stands(self):
        self.assertEqual(check_cells(6, [32, 31]), (31, 32))
        self.assertEqual(error_of(check_cells, 6, [32, 15]), (BadCells, ("all", 4)))
        self.assertEqual(error_of(check_cells, 6, [64]), (BadCells, ("lot", 0)))


class Even(unittest.TestCase):
    def test_glasses_of_cells_and_back(self):
        for stands in range(1, 7):
            for cells in partings(stands):
                unions = {sum(some) for some in product(*[(0, cell) for cell in cells])}
                glasses = glasses_of_cells(stands, cells)
                self.assertEqual(glasses, Glasses(stands, sorted(unions)))
                self.assertTrue(is_even(glasses))
                found = cells_of(glasses)
                self.assertEqual((type(found), found), (tuple, tuple(sorted(cells))))
        self.assertEqual(glasses_of_cells(cells=[4, 3], v=3).members, (0, 3, 4, 7))

    def test_cells_of_all_glasses(self):
        for stands in (1, 2, 3):
            for glasses in every_glasses(stands):
                uneven = [member for member in glasses.members if glasses.every - member not in glasses]
                due = (NotEven, (uneven[0],)) if uneven else None
                self.assertEqual(error_of(cells_of, glasses), due)

    def test_the_least_member_without_its_rest(self):
        self.assertEqual(error_of(cells_of, Glasses(3, (0, 1, 4, 7))), (NotEven, (1,)))
        self.assertEqual(error_of(cells_of, Glasses(3, (7,))), (NotEven, (7,)))
        self.assertEqual(error_of(cells_of, Glasses(3, (0, 1, 2, 6, 7))), (NotEven, (2,)))

    def test_even_glasses(self):
        self.assertEqual(even_glasses(NARROW).members, tuple(range(8)))
        self.assertEqual(even_glasses(glasses=Glasses(3, (7,))).members, (0, 7))
        self.assertEqual(even_glasses(Glasses(3, (4, 7))).members, (0, 3, 4, 7))
        for stands in (1, 2, 3):
            families = every_glasses(stands)
            evens = [glasses for glasses in families if is_even(glasses)]
            self.assertEqual(len(evens), len(partings(stands)))
            for glasses in families:
                even = even_glasses(glasses)
                self.assertIn(even, evens)
                for other in evens:
                    self.assertEqual(is_finer(other, glasses), is_finer(other, even))
                self.assertEqual(even == glasses, is_even(glasses))

    def test_even_glasses_of_more_stands(self):
        draw = Random(809)
        for stands in (4, 5, 6):
            evens = [glasses_of_cells(stands, cells) for cells in partings(stands)]
            for _ in range(20):
                glasses = drawn_glasses(draw, stands)
                even = even_glasses(glasses)
                finer = [other for other in evens if is_finer(other, glasses)]
                self.assertEqual(len(even), min([len(other) for other in finer]))
                self.assertTrue(is_finer(even, glasses))


class Refined(unittest.TestCase):
    def check_reasons(self, cells, steps, parted):
        """One reason for each two stands in unlike cells, by elder ones."""
        self.assertEqual((type(parted), type(parted.cells), type(parted.reasons)), (Parted, tuple, tuple))
        apart = set()
        for reason in parted.reasons:
            self.assertEqual((type(reason), len(reason)), (tuple, 5))
            one, other, name, mover, goal = reason
            self.assertLess(one, other)
            self.assertNotIn((one, other), apart)
            if name == "":
                self.assertEqual((mover, goal), (0, 0))
                self.assertFalse(any(cell >> one & 1 and cell >> other & 1 for cell in cells))
            else:
                self.assertIn(mover, (one, other))
                row = steps.row_of(name)
                self.assertTrue(row[mover] >> goal & 1)
                for stand in range(steps.stands):
                    if row[one + other - mover] >> stand & 1:
                        self.assertIn((min(stand, goal), max(stand, goal)), apart)
            apart.add((one, other))
        for one, other in product(range(steps.stands), repeat=2):
            together = any(cell >> one & 1 and cell >> other & 1 for cell in parted.cells)
            if one < other:
                self.assertEqual((one, other) in apart, not together)
        self.assertIsNone(parted_fault(cells, steps, parted))

    def check_refined(self, cells, steps, all_partings):
        parted = cells_refined(cells, steps)
        self.assertEqual(parted.cells, check_cells(steps.stands, parted.cells))
        self.assertTrue(is_no_coarser(parted.cells, cells) and are_steady(parted.cells, steps.rows))
        for others in all_partings:
            if is_no_coarser(others, cells) and are_steady(others, steps.rows):
                self.assertTrue(is_no_coarser(others, parted.cells))
        self.check_reasons(cells, steps, parted)
        return parted

    def test_the_example(self):
        parted = self.check_refined([3, 4], RIVER, partings(3))
        self.assertEqual(parted.cells, (1, 2, 4))
        self.assertIn((0, 1, "f", 0, 1), parted.reasons)
        self.assertIn((1, 2, "", 0, 0), parted.reasons)
        self.assertEqual(cells_refined(steps=RIVER, cells=(4, 3)).cells, (1, 2, 4))

    def test_up_to_four_stands(self):
        draw = Random(810)
        counts = set()
        for stands in (1, 2, 3, 4):
            families = partings(stands)
            for cells in families:
                some = [Steps(stands, [("f", row)]) for row in some_rows(stands)] + some_steps(stands)[::3]
                for steps in some + [drawn_steps(draw, stands, ("f", "g", "h")), Steps(stands, [])]:
                    parted = self.check_refined(cells, steps, families)
                    counts.add((len(cells), len(parted.cells)))
        self.assertGreater(len(counts), 9)

    def test_all_rows_of_two_and_three_stands(self):
        for stands in (2, 3):
            for row in all_rows(stands)[::1 + 6 * (stands == 3)]:
                for cells in partings(stands):
                    self.check_refined(cells, Steps(stands, [("f", row)]), partings(stands))

    def test_five_and_six_stands(self):
        draw = Random(811)
        for stands in (5, 6):
            for _ in range(25):
                self.check_refined(drawn_cells(draw, stands), drawn_steps(draw, stands), partings(stands))

    def test_no_next_ones(self):
        # From stand 1 the step leads nowhere: this is told by stand 0, which goes somewhere.
        parted = cells_refined([3], Steps(2, [("f", (1, 0))]))
        self.assertEqual((parted.cells, parted.reasons), ((1, 2), ((0, 1, "f", 0, 0),)))
        parted = cells_refined([3], Steps(2, [("f", (0, 2))]))
        self.assertEqual((parted.cells, parted.reasons), ((1, 2), ((0, 1, "f", 1, 1),)))

    def test_no_reason_if_nothing_is_apart(self):
        parted = cells_refined([7], Steps(3, [("f", (2, 4, 1))]))
        self.assertEqual((parted.cells, parted.reasons), ((7,), ()))

    def test_meaning_rows_are_steady(self):
        draw = Random(814)
        for stands in (2, 3, 4, 5):
            for _ in range(25):
                steps = drawn_steps(draw, stands)
                cells = cells_refined(drawn_cells(draw, stands), steps).cells
                for _ in range(6):
                    self.assertTrue(are_steady(cells, [meaning_row(steps, drawn_program(draw, 9))]))

    def test_the_result(self):
        check_result(self, Parted, ["cells", "reasons"])


class Fault(unittest.TestCase):
    """The cells 3 and 4 are parted further by f, which leads from 0 to 1 and from 1 to 2."""

    REASONS = ((0, 2, "", 0, 0), (1, 2, "", 0, 0), (0, 1, "f", 0, 1))

    def fault(self, reasons, cells=(1, 2, 4), given=(3, 4)):
        return parted_fault(given, RIVER, Parted(cells, reasons))

    def test_right_reasons(self):
        for given in ((3, 4), [4, 3], (4, 3)):
            self.assertIsNone(self.fault(self.REASONS, given=given))
        self.assertIsNone(self.fault(self.REASONS[::-1][1:] + ((0, 1, "f", 1, 2),)))
        self.assertIsNone(self.fault(self.REASONS[1:] + ((0, 2, "", 7, -3),)))
        self.assertIsNone(self.fault(self.REASONS[1:] + ((0, 2, "f", 0, 1),)))
        self.assertIsNone(self.fault(self.REASONS[1:2] + (self.REASONS[2], self.REASONS[0])))
        self.assertIsNone(parted_fault(parted=Parted((1, 2, 4), self.REASONS), steps=RIVER, cells=(3, 4)))

    def check_at_each_place(self, wrongs, word):
        for wrong in wrongs:
            for place in range(3):
                reasons = self.REASONS[:place] + (wrong, None)
                self.assertEqual(self.fault(reasons), (place, word), wrong)

    def test_form(self):
        self.check_at_each_place((
            None, [0, 1, "f", 0, 1], (0, 1, "f", 0), (0, 1, "f", 0, 1, 1), (), (0, 1, None, 0, 1), (0, 1, 7, 0, 1),
            (0, 1, ["f"], 0, 1), "01f01", 5), "form")
        for place in (0, 1, 3, 4):
            for thing in (True, False, None, "1", 1.0, (1,), [1]):
                reason = list((0, 1, "f", 0, 1))
                reason[place] = thing
                self.check_at_each_place((tuple(reason),), "form")

    def test_pair(self):
        self.check_at_each_place([
            (one, other, name, 9, 9) for name in ("", "f", "none")
            for one, other in (
                (1, 0), (0, 0), (2, 2), (0, 3), (-1, 0), (-1, 2), (2, 10 ** 30), (3, 4), (2, 1))], "pair")
        for name in ("", "f", "none"):
            self.assertEqual(self.fault(self.REASONS[:1] + ((0, 2, name, 9, 9),)), (1, "pair"))
            self.assertEqual(self.fault(self.REASONS + ((0, 1, name, 0, 1),)), (3, "pair"))

    def test_name(self):
        for name in ("g", "F", " ", "nothing", "f "):
            for mover in (0, 1, 9):
                self.assertEqual(self.fault(((0, 1, name, mover, 9),)), (0, "name"))

    def test_cell(self):
        for mover, goal in ((0, 0), (9, -9), (0, 1)):
            self.assertEqual(self.fault(((0, 1, "", mover, goal),)), (0, "cell"))
            self.assertEqual(self.fault(self.REASONS[:2] + ((0, 1, "", mover, goal),)), (2, "cell"))

    def test_mover(self):
        for mover in (2, -1, 3, 10 ** 30):
            for goal in (1, 2, 9):
                self.assertEqual(self.fault(self.REASONS[:2] + ((0, 1, "f", mover, goal),)), (2, "mover"))

    def test_goal(self):
        for goal in (0, 2, -1, 3, 10 ** 30, 64):
            self.assertEqual(self.fault(self.REASONS[:2] + ((0, 1, "f", 0, goal),)), (2, "goal"))
            if goal != 2:
                self.assertEqual(self.fault(self.REASONS[:2] + ((0, 1, "f", 1, goal),)), (2, "goal"))

    def test_apart(self):
        # 1 and 2 are not apart yet.
        self.assertEqual(self.fault(((0, 1, "f", 0, 1),)), (0, "apart"))
        self.assertEqual(self.fault(self.REASONS[:1] + ((0, 1, "f", 0, 1),)), (1, "apart"))
        # By f both 1 and 2 lead to 2: the goal itself is matched.
        self.assertEqual(self.fault(((1, 2, "f", 1, 2),)), (0, "apart"))
        self.assertEqual(self.fault(self.REASONS[:1] + ((1, 2, "f", 2, 2),)), (1, "apart"))

    def test_cells(self):
        for cells in (
                [1, 2, 4], (2, 1, 4), (1, 2), (1, 2, 4, 4), (1, 3, 4), (0, 1, 2, 4), (True, 2, 4), (None,), (), None, 7,
                (1, 2, 12), "124", (1, "2", 4), (1, [2], 4), (3, 4, 4), (6, 1), (1, 2, 4, 0)):
            self.assertEqual(self.fault(self.REASONS, cells), (3, "cells"), cells)
            self.assertEqual(self.fault(self.REASONS[:2], cells), (2, "cells"), cells)

    def test_reasons(self):
        for many in range(3):
            self.assertEqual(self.fault(self.REASONS[:many]), (many, "reasons"))
        for cells in ((3, 4), (2, 5), (1, 6), (7,)):
            self.assertEqual(self.fault(self.REASONS, cells), (3, "reasons"), cells)
        # These cells are steady and have all their reasons, but they are coarser than the given ones.
        self.assertEqual(parted_fault((1, 2), Steps(2, []), Parted((3,), ())), (0, "reasons"))
        self.assertIsNone(parted_fault((3,), Steps(2, []), Parted((3,), ())))
        self.assertIsNone(parted_fault((1, 2), Steps(2, []), Parted((1, 2), ((0, 1, "", 5, 5),))))
        self.assertEqual(parted_fault((1, 2), Steps(2, []), Parted((3,), ((0, 1, "", 0, 0),))), (1, "reasons"))

    def test_steady(self):
        self.assertEqual(self.fault(self.REASONS[:2], (3, 4)), (2, "steady"))
        self.assertEqual(parted_fault([3], Steps(2, [("f", (1, 0))]), Parted((3,), ())), (0, "steady"))
        self.assertIsNone(parted_fault([7], RIVER, Parted((7,), ())))

    def test_against_the_document(self):
        draw = Random(812)
        words = set()
        for _ in range(400):
            stands = draw.randrange(2, 5)
            steps, cells = Steps(stands, [("f", drawn_row(draw, stands))]), drawn_cells(draw, stands)
            parted = cells_refined(cells, steps)
            reasons = list(parted.reasons)
            for _ in range(draw.randrange(3)):
                if reasons:
                    place = draw.randrange(len(reasons))
                    if draw.randrange(2):
                        reasons.insert(draw.randrange(len(reasons) + 1), reasons.pop(place))
                    else:
                        changed = list(reasons[place])
                        changed[draw.choice((0, 1, 3, 4))] = draw.randrange(stands)
                        reasons[place] = tuple(changed)
            told = parted.cells if draw.randrange(2) else tuple(sorted(draw.choice(partings(stands))))
            fault = parted_fault(cells, steps, Parted(told, tuple(reasons)))
            self.assertEqual(fault, fault_by_document(cells, steps, told, reasons))
            words.add(fault and fault[1])
        self.assertGreaterEqual(words, {None, "pair", "mover", "goal", "apart", "reasons"})


def fault_by_document(cells, steps, told, reasons):
    def together(lots, one, other):
        return any(lot >> one & 1 and lot >> other & 1 for lot in lots)

    apart = set()
    for place, (one, other, name, mover, goal) in enumerate(reasons):
        if not one < other or (one, other) in apart:
            return (place, "pair")
        if name == "":
            if together(cells, one, other):
                return (place, "cell")
        else:
            row = steps.row_of(name)
            if mover != one and mover != other:
                return (place, "mover")
            if not row[mover] >> goal & 1:
                return (place, "goal")
            stands = [stand for stand in range(steps.stands) if row[one + other - mover] >> stand & 1]
            if not all((min(stand, goal), max(stand, goal)) in apart for stand in stands):
                return (place, "apart")
        apart.add((one, other))
    for one in range(steps.stands):
        for other in range(one + 1, steps.stands):
            unlike = not together(told, one, other) or not together(cells, one, other)
            if unlike and (one, other) not in apart or together(told, one, other) and (one, other) in apart:
                return (len(reasons), "reasons")
    return None if are_steady(told, steps.rows) else (len(reasons), "steady")


class EvenRefinement(unittest.TestCase):
    def test_against_all_even_sharp_glasses(self):
        draw = Random(813)
        for stands in (1, 2, 3):
            families = every_glasses(stands)
            for steps in some_steps(stands)[::2] + [drawn_steps(draw, stands), Steps(stands, [])]:
                wanted = [glasses for glasses in families if is_even(glasses)
                          and all(unsharp_member(glasses, row) is None for row in steps.rows)]
                for glasses in families:
                    even = even_refinement(glasses, steps)
                    self.assertIn(even, wanted)
                    for other in wanted:
                        self.assertEqual(is_finer(other, glasses), is_finer(other, even))
                    self.assertEqual(cells_of(even), cells_refined(cells_of(even_glasses(glasses)), steps).cells)

    def test_more_stands(self):
        draw = Random(815)
        for stands in (4, 5, 6):
            for _ in range(12):
                glasses, steps = drawn_glasses(draw, stands), drawn_steps(draw, stands)
                even = even_refinement(glasses, steps)
                self.assertTrue(is_even(even) and is_finer(even, glasses))
                self.assertTrue(all(unsharp_member(even, row) is None for row in steps.rows))
                self.assertEqual(cells_of(even), cells_refined(cells_of(even_glasses(glasses)), steps).cells)

    def test_steps_of_one_next_stand_each(self):
        draw = Random(816)
        for stands in (2, 3, 4, 5):
            for _ in range(30):
                rows = [[1 << draw.randrange(stands) for _ in range(stands)] for _ in range(2)]
                glasses, steps = drawn_glasses(draw, stands), Steps(stands, list(zip("fg", rows)))
                self.assertEqual(
                    even_refinement(glasses, steps), even_glasses(sharp_refinement(glasses, steps).glasses))

    def test_other_steps(self):
        draw = Random(817)
        finer = uneven = 0
        for _ in range(200):
            glasses, steps = drawn_glasses(draw, 3), drawn_steps(draw, 3)
            even = even_glasses(sharp_refinement(glasses, steps).glasses)
            self.assertTrue(is_finer(even_refinement(glasses, steps), even))
            finer += even_refinement(glasses, steps) != even
            uneven += not is_even(sharp_refinement(even_glasses(glasses), steps).glasses)
        self.assertGreater(min(finer, uneven), 0)

    def test_the_example(self):
        self.assertEqual(even_refinement(NARROW, RIVER), made_glasses(3, list(range(8))))
        self.assertEqual(even_refinement(steps=RIVER, glasses=Glasses(3, (7,))).members, (0, 7))

    def test_unlike_stands(self):
        for glasses, steps in ((NARROW, Steps(2, [])), (made_glasses(2, []), RIVER)):
            self.assertEqual(error_of(even_refinement, glasses, steps), (UnlikeStands, ()))


if __name__ == "__main__":
    unittest.main()
