"""[1.2]: lots."""

import unittest

from helpers import NO_SEQUENCES, NO_WHOLES, error_of
from truealarms.errors import BadLot, BadStands
from truealarms.lots import (
    all_stands, check_lot, check_lots, check_stands, is_within, lot_of, lot_text, size_of, stands_of)

NO_STANDS = NO_WHOLES + (0, 7)
BAD_LOT = (BadLot, ())
BAD_STANDS = (BadStands, ())


class Checks(unittest.TestCase):
    def test_numbers_of_stands(self):
        self.assertEqual([check_stands(v) for v in range(1, 7)], [1, 2, 3, 4, 5, 6])
        self.assertEqual([all_stands(v) for v in range(1, 7)], [1, 3, 7, 15, 31, 63])

    def test_no_numbers_of_stands(self):
        for v in NO_STANDS:
            self.assertEqual(error_of(check_stands, v), BAD_STANDS, v)
            self.assertEqual(error_of(all_stands, v), BAD_STANDS, v)

    def test_lots(self):
        for v in range(1, 7):
            every = 2 ** v - 1
            self.assertEqual([check_lot(v, lot) for lot in range(every + 1)], list(range(every + 1)))
            self.assertEqual(error_of(check_lot, v, every + 1), BAD_LOT)
            for lot in NO_WHOLES:
                self.assertEqual(error_of(check_lot, v, lot), BAD_LOT, lot)

    def test_stands_are_asked_ahead_of_lots(self):
        for v in NO_STANDS:
            self.assertEqual(error_of(check_lot, v, "no lot"), BAD_STANDS)
            self.assertEqual(error_of(check_lot, v, 0), BAD_STANDS)
            self.assertEqual(error_of(check_lots, v, "no lots"), BAD_STANDS)
            self.assertEqual(error_of(check_lots, v, []), BAD_STANDS)

    def test_sequences_of_lots(self):
        self.assertEqual(check_lots(3, [7, 0, 2, 2]), (7, 0, 2, 2))
        self.assertEqual(check_lots(3, (7, 0, 2, 2)), (7, 0, 2, 2))
        self.assertEqual(check_lots(1, []), ())
        self.assertEqual(check_lots(6, list(range(64))), tuple(range(64)))
        self.assertEqual(check_lots(2, [3] * 64), (3,) * 64)

    def test_refused_sequences_of_lots(self):
        self.assertEqual(error_of(check_lots, 2, [3] * 65), BAD_LOT)
        self.assertEqual(error_of(check_lots, 2, [0, 4]), BAD_LOT)
        for lots in NO_SEQUENCES:
            self.assertEqual(error_of(check_lots, 2, lots), BAD_LOT, lots)
        for lot in NO_WHOLES:
            self.assertEqual(error_of(check_lots, 2, [0, lot]), BAD_LOT, lot)

    def test_what_is_returned_is_new(self):
        lots = [1, 2]
        checked = check_lots(2, lots)
        lots.append(3)
        self.assertEqual(checked, (1, 2))


class Stands(unittest.TestCase):
    def test_lots_of_stands(self):
        self.assertEqual(lot_of([]), 0)
        self.assertEqual(lot_of((2, 0, 2, 0)), 5)
        self.assertEqual(lot_of([5, 4, 3, 2, 1, 0]), 63)
        self.assertEqual(lot_of([3] * 1000), 8)

    def test_no_sequences_of_stands(self):
        for stands in NO_SEQUENCES:
            self.assertEqual(error_of(lot_of, stands), BAD_LOT, stands)
        for stand in NO_WHOLES + (6,):
            self.assertEqual(error_of(lot_of, [0, stand]), BAD_LOT, stand)

    def test_stands_of_lots_and_back(self):
        for lot in range(64):
            stands = stands_of(lot)
            self.assertIs(type(stands), tuple)
            self.assertEqual(sum([2 ** stand for stand in stands]), lot)
            self.assertEqual(stands, tuple(sorted(stands)))
            self.assertEqual(lot_of(stands), lot)
            self.assertEqual(size_of(lot), len(stands))

    def test_within(self):
        for one in range(64):
            for other in range(64):
                expected = set(stands_of(one)) <= set(stands_of(other))
                self.assertIs(is_within(one, other), expected)

    def test_texts(self):
        self.assertEqual([lot_text(lot) for lot in (0, 1, 5, 63)], ["{}", "{0}", "{0, 2}", "{0, 1, 2, 3, 4, 5}"])

    def test_things_that_are_no_lots(self):
        for lot in NO_WHOLES + (64,):
            for call in (stands_of, size_of, lot_text):
                self.assertEqual(error_of(call, lot), BAD_LOT, lot)
            self.assertEqual(error_of(is_within, lot, 0), BAD_LOT, lot)
            self.assertEqual(error_of(is_within, 0, lot), BAD_LOT, lot)


if __name__ == "__main__":
    unittest.main()
