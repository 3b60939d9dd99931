"""[4.9] to [4.11]: kinds of steps, and whether every step of a kind is sharp."""

import unittest

from helpers import (
    NO_SEQUENCES, NO_WHOLES, all_rows, check_result, error_of, every_glasses, some_rows)
from truealarms.errors import BadGlasses, BadKind, BadRow, BadStands
from truealarms.everystep import UnsharpRow, every_step_sharp, kinds_of_row, step_kinds
from truealarms.families import made_glasses
from truealarms.glasses import Glasses
from truealarms.rows import back_lot, test_row as row_of_test
from truealarms.sharpness import unsharp_member

KINDS = ("any", "going", "single", "exchange", "test", "growing", "same")


def size(lot):
    return bin(lot).count("1")


def kinds_by_document(row):
    single = all(size(lot) == 1 for lot in row)
    told = {
        "any": True,
        "going": all(lot != 0 for lot in row),
        "single": single,
        "exchange": single and sorted(row) == [1 << s for s in range(len(row))],
        "test": all(lot == 0 or lot == 1 << s for s, lot in enumerate(row)),
        "growing": all(lot & 1 << s for s, lot in enumerate(row)),
        "same": all(lot == row[0] for lot in row),
    }
    return tuple([kind for kind in KINDS if told[kind]])


def has_form(glasses, kind):
    """Whether the members have one of the forms that the document tells for a kind."""
    members, every = list(glasses.members), glasses.every
    lots = list(range(every + 1))
    if kind == "any":
        return members in ([every], lots)
    if kind in ("going", "single"):
        return members in ([every], [0, every], lots)
    if kind == "exchange":
        forms = [sorted({every} | {lot for lot in lots if size(lot) <= k}) for k in range(-1, glasses.stands + 1)]
        return members in forms
    if kind == "test":
        return members == [lot for lot in lots if glasses.least & ~lot == 0]
    if kind == "growing":
        return all(lot in members for member in members[:-1] for lot in lots if lot & ~member == 0)
    return members == [every] or 0 in members


def told_forms(stands):
    """Glasses of each of the told forms."""
    every = (1 << stands) - 1
    found = [[], [0], list(range(every))]
    found += [[lot for lot in range(every) if size(lot) <= k] for k in range(stands)]
    found += [[lot for lot in range(every) if least & ~lot == 0] for least in (1, every >> 1, every - 1)]
    found += [[lot for lot in range(every) if lot & ~top == 0 or lot & ~other == 0]
              for top, other in ((1, 2), (every >> 1, 1), (every >> 1, every - 1))]
    return [made_glasses(stands, [lot for lot in lots if lot <= every]) for lots in found]


def changed_by_one(glasses):
    """Glasses that come of others by putting one member in or leaving one out."""
    found = []
    for lot in range(glasses.every):
        members = sorted(set(glasses.members) ^ {lot})
        try:
            found.append(Glasses(glasses.stands, members))
        except BadGlasses:
            continue
    return found


class Kinds(unittest.TestCase):
    def test_words(self):
        self.assertEqual(step_kinds(), KINDS)
        self.assertIs(type(step_kinds()), tuple)

    def test_rows_of_each_kind(self):
        self.assertEqual(kinds_of_row(3, (2, 4, 4)), ("any", "going", "single"))
        self.assertEqual(kinds_of_row(3, [2, 4, 1]), ("any", "going", "single", "exchange"))
        self.assertEqual(kinds_of_row(3, (1, 2, 4)), ("any", "going", "single", "exchange", "test", "growing"))
        self.assertEqual(kinds_of_row(3, (1, 0, 4)), ("any", "test"))
        self.assertEqual(kinds_of_row(3, (0, 0, 0)), ("any", "test", "same"))
        self.assertEqual(kinds_of_row(3, (7, 7, 7)), ("any", "going", "growing", "same"))
        self.assertEqual(kinds_of_row(3, (2, 2, 2)), ("any", "going", "single", "same"))
        self.assertEqual(kinds_of_row(3, (2, 0, 4)), ("any",))
        self.assertEqual(kinds_of_row(1, (1,)), KINDS)
        self.assertEqual(kinds_of_row(1, (0,)), ("any", "test", "same"))

    def test_against_the_document(self):
        for stands in range(1, 7):
            for row in all_rows(stands) if stands <= 3 else some_rows(stands) + [(1,) * stands]:
                kinds = kinds_of_row(stands, row)
                self.assertEqual((type(kinds), kinds), (tuple, kinds_by_document(row)))

    def test_wrong_stands_come_first(self):
        for stands in NO_WHOLES + (0, 7):
            self.assertEqual(error_of(kinds_of_row, stands, "no row"), (BadStands, ()), stands)

    def test_wrong_rows(self):
        for row in NO_SEQUENCES + ([1, 1], (1, 1, 1, 1)):
            self.assertEqual(error_of(kinds_of_row, 3, row), (BadRow, (None,)), row)
        for lot in NO_WHOLES + (8,):
            self.assertEqual(error_of(kinds_of_row, 3, [1, lot, lot]), (BadRow, (1,)), lot)
            self.assertEqual(error_of(kinds_of_row, 3, (1, 1, lot)), (BadRow, (2,)), lot)


class EveryStep(unittest.TestCase):
    def check_kind(self, glasses, kind):
        fault = every_step_sharp(glasses, kind)
        self.assertEqual(fault is None, has_form(glasses, kind), (glasses.members, kind))
        if fault is not None:
            self.assertIs(type(fault), UnsharpRow)
            self.assertEqual((type(fault.row), len(fault.row)), (tuple, glasses.stands))
            self.assertIn(kind, kinds_of_row(glasses.stands, fault.row))
            self.assertIsNotNone(unsharp_member(glasses, fault.row))
            self.assertIn(fault.member, glasses)
            self.assertEqual(fault.back, back_lot(fault.row, fault.member))
            self.assertNotIn(fault.back, glasses)

    def test_all_glasses_of_one_to_three_stands(self):
        for stands in (1, 2, 3):
            for glasses in every_glasses(stands):
                for kind in KINDS:
                    self.check_kind(glasses, kind)

    def test_against_all_rows(self):
        for stands in (1, 2):
            for glasses in every_glasses(stands):
                for kind in KINDS:
                    rows = [row for row in all_rows(stands) if kind in kinds_by_document(row)]
                    sharp = all(unsharp_member(glasses, row) is None for row in rows)
                    self.assertEqual(every_step_sharp(glasses, kind) is None, sharp)

    def test_told_forms_and_these_changed_by_one_member(self):
        for stands in (4, 5, 6):
            for glasses in told_forms(stands):
                self.assertTrue(any(has_form(glasses, kind) for kind in KINDS))
                for other in [glasses] + changed_by_one(glasses):
                    for kind in KINDS:
                        self.check_kind(other, kind)

    def test_glasses_of_many_forms(self):
        for stands in (4, 5, 6):
            for glasses in every_glasses(stands):
                for kind in KINDS:
                    self.check_kind(glasses, kind)

    def test_no_kind(self):
        for kind in NO_WHOLES + ("Any", "anything", "any ", ("any",), ["any"], 0):
            self.assertEqual(error_of(every_step_sharp, made_glasses(2, []), kind), (BadKind, ()), kind)

    def test_the_result(self):
        check_result(self, UnsharpRow, ["row", "member", "back"])

    def test_tests_are_rows_of_tests(self):
        for lot in range(8):
            self.assertIn("test", kinds_of_row(3, row_of_test(3, lot)))


if __name__ == "__main__":
    unittest.main()
