"""[2.1] and [2.2]: rows."""

import unittest

from helpers import NO_SEQUENCES, NO_WHOLES, all_rows, error_of, some_rows
from truealarms.errors import BadLot, BadRow, BadStands
from truealarms.rows import (
    back_lot, behind_row, check_row, check_rows, joined_row, next_lot, test_row as row_of_test)


class Checks(unittest.TestCase):
    def test_rows(self):
        self.assertEqual(check_row(3, [2, 4, 4]), (2, 4, 4))
        self.assertEqual(check_row(3, (0, 7, 0)), (0, 7, 0))
        self.assertEqual(check_row(1, [0]), (0,))
        self.assertEqual(check_row(6, [63] * 6), (63,) * 6)

    def test_no_rows(self):
        for row in NO_SEQUENCES + ([], [1, 1], [1, 1, 1, 1], ["a"], [True] * 2):
            self.assertEqual(error_of(check_row, 3, row), (BadRow, (None,)), row)

    def test_first_item_that_is_no_lot(self):
        for lot in NO_WHOLES + (8,):
            self.assertEqual(error_of(check_row, 3, [0, lot, lot]), (BadRow, (1,)), lot)
            self.assertEqual(error_of(check_row, 3, (lot, 0, lot)), (BadRow, (0,)), lot)

    def test_stands_come_first(self):
        for stands in NO_WHOLES + (0, 7):
            self.assertEqual(error_of(check_row, stands, "none"), (BadStands, ()), stands)
            self.assertEqual(error_of(check_rows, stands, "none"), (BadStands, ()), stands)
            self.assertEqual(error_of(check_rows, stands, []), (BadStands, ()), stands)

    def test_sequences_of_rows(self):
        self.assertEqual(check_rows(2, []), ())
        self.assertEqual(check_rows(2, [[1, 2], (3, 0)]), ((1, 2), (3, 0)))
        self.assertEqual(check_rows(2, ([0, 0],) * 8), ((0, 0),) * 8)

    def test_refused_sequences_of_rows(self):
        for rows in NO_SEQUENCES + ([[0, 0]] * 9, ["none"] * 9):
            self.assertEqual(error_of(check_rows, 2, rows), (BadRow, (None,)), rows)
        self.assertEqual(error_of(check_rows, 2, [[0, 0], [0, 4], "none"]), (BadRow, (1,)))
        self.assertEqual(error_of(check_rows, 2, [[0, 0], "none", [0, 4]]), (BadRow, (None,)))
        self.assertEqual(error_of(check_rows, 2, [[True, 0]]), (BadRow, (0,)))

    def test_changes_of_the_lists_have_no_effect(self):
        row = [1, 2]
        rows = [row]
        checked, several = check_row(2, row), check_rows(2, rows)
        row[0] = 3
        rows.append(row)
        self.assertEqual((checked, several), ((1, 2), ((1, 2),)))


class Lots(unittest.TestCase):
    def test_next_lot(self):
        row = (2, 4, 5)
        self.assertEqual([next_lot(row, lot) for lot in range(8)], [0, 2, 4, 6, 5, 7, 5, 7])
        self.assertEqual([next_lot([2, 4, 5], lot) for lot in range(8)], [0, 2, 4, 6, 5, 7, 5, 7])

    def test_back_lot(self):
        row = (2, 4, 4)
        self.assertEqual([back_lot(row, lot) for lot in (0, 1, 4, 7)], [0, 0, 6, 7])
        self.assertEqual([back_lot(list(row), lot) for lot in (0, 1, 4, 7)], [0, 0, 6, 7])

    def test_a_stand_that_leads_nowhere_is_in_every_back_lot(self):
        for lot in range(8):
            self.assertEqual(back_lot((0, 7, 0), lot), 7 if lot == 7 else 5)

    def test_next_within_exactly_if_within_back(self):
        for stands in range(1, 7):
            for row in some_rows(stands):
                for lot in range(1 << stands):
                    reached = next_lot(row, lot)
                    for other in range(1 << stands):
                        self.assertEqual(reached & ~other == 0, lot & ~back_lot(row, other) == 0)

    def test_next_and_back_of_all_rows_of_two_stands(self):
        for row in all_rows(2):
            for lot in range(4):
                ways = [(s, t) for s in (0, 1) for t in (0, 1) if row[s] >> t & 1]
                self.assertEqual(next_lot(row, lot), sum({1 << t for s, t in ways if lot >> s & 1}))
                outside = {s for s, t in ways if not lot >> t & 1}
                self.assertEqual(back_lot(row, lot), sum([1 << s for s in (0, 1) if s not in outside]))


class Made(unittest.TestCase):
    def test_tests(self):
        self.assertEqual(row_of_test(3, 5), (1, 0, 4))
        for stands in range(1, 7):
            for lot in range(1 << stands):
                row = row_of_test(stands, lot)
                self.assertEqual(check_row(stands, row), row)
                self.assertEqual([next_lot(row, other) for other in range(1 << stands)],
                                 [other & lot for other in range(1 << stands)])

    def test_refused_tests(self):
        for stands in NO_WHOLES + (0, 7):
            self.assertEqual(error_of(row_of_test, stands, None), (BadStands, ()), stands)
        for lot in NO_WHOLES + (8,):
            self.assertEqual(error_of(row_of_test, 3, lot), (BadLot, ()), lot)

    def test_joined_and_behind(self):
        self.assertEqual(joined_row([2, 4, 4], (1, 4, 0)), (3, 4, 4))
        self.assertEqual(behind_row((2, 4, 4), [2, 4, 4]), (4, 4, 4))
        for one in some_rows(4):
            for other in some_rows(4):
                joined, behind = joined_row(one, list(other)), behind_row(list(one), other)
                self.assertEqual((type(joined), type(behind)), (tuple, tuple))
                for lot in range(16):
                    self.assertEqual(next_lot(joined, lot), next_lot(one, lot) | next_lot(other, lot))
                    self.assertEqual(next_lot(behind, lot), next_lot(other, next_lot(one, lot)))


if __name__ == "__main__":
    unittest.main()
