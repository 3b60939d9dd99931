"""[4.6] to [4.8]: cores."""

import unittest
from itertools import product

from helpers import NO_WHOLES, all_rows, check_result, check_row_errors, every_glasses, lots_within, some_rows
from truealarms.cores import Core, core_fault, sharp_core
from truealarms.glasses import Glasses
from truealarms.rows import back_lot
from truealarms.sharpness import unsharp_member

NARROW = Glasses(3, (0, 1, 4, 7))
RIVER = (2, 4, 4)


def fault_of(row, cuts, left, glasses=NARROW):
    return core_fault(glasses, row, Core(left, cuts))


def is_right(glasses, row, stand, member):
    back = back_lot(row, member)
    return not back >> stand & 1 and glasses.rounded(back) >> stand & 1 == 1


class Finding(unittest.TestCase):
    def test_example(self):
        core = sharp_core(NARROW, RIVER)
        self.assertEqual((core.row, core.cuts), ((0, 4, 4), ((0, 4),)))

    def test_each_cut_is_right_and_the_row_is_sharp(self):
        for stands in range(1, 7):
            for glasses in every_glasses(stands)[::1 + (stands == 3)]:
                for row in all_rows(2) if stands == 2 else some_rows(stands):
                    self.check_core(glasses, row)

    def check_core(self, glasses, row):
        core = sharp_core(glasses, list(row))
        self.assertEqual((type(core), type(core.row), type(core.cuts)), (Core, tuple, tuple))
        left = list(row)
        for cut in core.cuts:
            self.assertEqual((type(cut), len(cut)), (tuple, 2))
            self.assertTrue(is_right(glasses, left, *cut))
            left[cut[0]] &= cut[1]
        self.assertEqual(core.row, tuple(left))
        self.assertIsNone(unsharp_member(glasses, core.row))
        self.assertIsNone(core_fault(glasses, row, core))
        again = sharp_core(glasses, core.row)
        self.assertEqual((again.row, again.cuts), (core.row, ()))

    def test_each_sharp_row_within_is_within_the_core(self):
        for glasses in every_glasses(2) + every_glasses(3)[::4]:
            rows = all_rows(2) if glasses.stands == 2 else some_rows(3)
            sharp = {row for row in all_rows(glasses.stands) if unsharp_member(glasses, row) is None}
            for row in rows:
                core = sharp_core(glasses, row).row
                self.assertIn(core, sharp)
                for inner in product(*[lots_within(lot) for lot in row]):
                    if inner in sharp:
                        self.assertTrue(all(a & ~b == 0 for a, b in zip(inner, core)))

    def test_wrong_rows(self):
        check_row_errors(self, sharp_core)
        check_row_errors(self, core_fault, Core((0, 4, 4), ((0, 4),)))

    def test_the_result(self):
        check_result(self, Core, ["row", "cuts"])


class Judging(unittest.TestCase):
    def test_right_cores(self):
        self.assertIsNone(fault_of(RIVER, ((0, 4),), (0, 4, 4)))
        self.assertIsNone(fault_of(RIVER, [(0, 4)], (0, 4, 4)))
        self.assertIsNone(fault_of([2, 4, 4], ((0, 4),), (0, 4, 4)))
        self.assertIsNone(fault_of((0, 4, 4), (), (0, 4, 4)))
        self.assertIsNone(fault_of((0, 4, 4), [], (False, 4, 4)))

    def test_a_cut_that_is_none(self):
        cuts = [[0, 4], (0,), (0, 4, 4), (), None, 4, "04", (3, 4), (-1, 4), (0, 3), (0, 8), ("0", 4), (0, None)]
        cuts += [(stand, 4) for stand in NO_WHOLES] + [(0, member) for member in NO_WHOLES]
        for cut in cuts:
            self.assertEqual(fault_of(RIVER, (cut,), "no row"), (0, "cut"), cut)
            self.assertEqual(fault_of(RIVER, [(0, 4), cut], "no row"), (1, "cut"), cut)

    def test_true_as_a_stand(self):
        # A cut at stand 1 is right here; what it leaves is not yet sharp.
        row = (4, 2, 4)
        self.assertEqual(fault_of(row, ((1, 4),), (4, 0, 4)), (1, "sharp"))
        self.assertEqual(fault_of(row, ((True, 4),), (4, 0, 4)), (0, "cut"))

    def test_a_cut_that_is_not_right(self):
        self.assertEqual(fault_of(RIVER, ((1, 4),), (2, 4, 4)), (0, "back"))
        self.assertEqual(fault_of(RIVER, ((0, 7),), (2, 4, 4)), (0, "back"))
        self.assertEqual(fault_of(RIVER, ((0, 0),), (0, 4, 4)), (0, "back"))
        # The same cut again is not right any more.
        self.assertEqual(fault_of(RIVER, ((0, 4), (0, 4)), (0, 4, 4)), (1, "back"))
        self.assertEqual(fault_of(RIVER, ((1, 4), [0, 4]), (0, 4, 4)), (0, "back"))
        self.assertEqual(fault_of(RIVER, ((0, 4), (1, 4), None), (0, 4, 4)), (1, "back"))

    def test_the_row_that_is_left(self):
        for left in ([0, 4, 4], (2, 4, 4), (0, 4), (0, 4, 4, 4), (0, 4, "4"), None, 0, "row", (0, (4,), 4)):
            self.assertEqual(fault_of(RIVER, ((0, 4),), left), (1, "row"), left)
        self.assertEqual(fault_of(RIVER, (), (0, 4, 4)), (0, "row"))

    def test_a_row_that_is_not_sharp(self):
        self.assertEqual(fault_of(RIVER, (), RIVER), (0, "sharp"))
        self.assertEqual(fault_of(RIVER, [], [2, 4, 4]), (0, "row"))

    def test_each_word_against_all_cuts(self):
        for glasses in every_glasses(3)[::7]:
            for row in some_rows(3):
                for stand, member in product(range(3), range(8)):
                    due = (0, "cut") if member not in glasses.members else (0, "back")
                    if member in glasses.members and is_right(glasses, row, stand, member):
                        left = tuple([lot & member if s == stand else lot for s, lot in enumerate(row)])
                        due = None if unsharp_member(glasses, left) is None else (1, "sharp")
                        self.assertEqual(fault_of(row, ((stand, member),), left, glasses), due)
                        due = (1, "row")
                    self.assertEqual(fault_of(row, ((stand, member),), None, glasses), due)

    def test_right_chains_in_any_order(self):
        many = 0
        for glasses in every_glasses(3)[::2]:
            for row in some_rows(3):
                core = sharp_core(glasses, row).row
                for pick in (0, -1):
                    cuts, left = self.chain(glasses, row, pick)
                    self.assertEqual(left, core)
                    self.assertIsNone(fault_of(row, cuts, left, glasses))
                    many += len(cuts) > 1
                    if cuts:
                        self.assertEqual(fault_of(row, cuts[:-1], left, glasses), (len(cuts) - 1, "row"))
        self.assertGreater(many, 100)

    def chain(self, glasses, row, pick):
        """A chain of right cuts that takes the first or the last right one each time."""
        cuts = []
        while True:
            right = [(stand, member) for member in glasses.members for stand in range(glasses.stands)
                     if is_right(glasses, row, stand, member)]
            if not right:
                return cuts, row
            stand, member = right[pick]
            cuts.append((stand, member))
            row = row[:stand] + (row[stand] & member,) + row[stand + 1:]


if __name__ == "__main__":
    unittest.main()
