"""[9.1] to [9.3]: pairs, boxes and the rows of a pair."""

import unittest
from itertools import product
from random import Random

from helpers import NO_SEQUENCES, NO_WHOLES, all_rows, error_of, some_rows
from truealarms.errors import BadLot, BadPair, BadRow, BadSide
from truealarms.names import Pair, box_of, boxed_lot, cross_row, is_box, project_lot, side_row

PAIRS = (Pair(2, 2), Pair(2, 3), Pair(3, 2))
NO_SIDES = NO_WHOLES + (2, -1, 3, "0", "first", (0,), 0.0)


def parts(pair, lot):
    """The couples x, y of the stands in a lot."""
    return {(x, y) for x in range(pair.first) for y in range(pair.second) if lot >> x * pair.second + y & 1}


def lot_of_parts(pair, couples):
    return sum([1 << x * pair.second + y for x, y in set(couples)])


def stands_in(lot):
    return [stand for stand in range(6) if lot >> stand & 1]


def lots_of_name(pair, which):
    return range(1 << (pair.first, pair.second)[which])


class Pairs(unittest.TestCase):
    def test_attributes(self):
        for first, second in ((2, 2), (2, 3), (3, 2)):
            for pair in (Pair(first, second), Pair(second=second, first=first)):
                self.assertEqual((pair.first, pair.second, pair.stands), (first, second, first * second))
                self.assertEqual(list(vars(pair)), ["first", "second", "stands"])

    def test_all_numbers(self):
        for first, second in product(range(-1, 8), repeat=2):
            if first not in (2, 3):
                due = (BadPair, ("first",))
            elif second not in (2, 3):
                due = (BadPair, ("second",))
            else:
                due = (BadPair, ("both",)) if first == second == 3 else None
            self.assertEqual(error_of(Pair, first, second), due, (first, second))

    def test_other_things(self):
        for thing in NO_WHOLES + ("2", 2.0, [2], (2,), 4, 0, 1):
            for other in (2, 3, None, thing):
                self.assertEqual(error_of(Pair, thing, other), (BadPair, ("first",)), thing)
            self.assertEqual(error_of(Pair, 2, thing), (BadPair, ("second",)), thing)
            self.assertEqual(error_of(Pair, 3, thing), (BadPair, ("second",)), thing)

    def test_equal_pairs(self):
        for one, other in product(((2, 2), (2, 3), (3, 2)), repeat=2):
            self.assertIs(Pair(*one) == Pair(*other), one == other)
            self.assertIs(Pair(*one) != Pair(*other), one != other)
        for pair in PAIRS:
            for thing in (None, 0, 4, (2, 2), "Pair", [], object(), pair.stands, vars(pair), Pair):
                self.assertIs(pair == thing, False)
                self.assertIs(thing == pair, False)
                self.assertIs(pair != thing, True)


class Boxes(unittest.TestCase):
    def test_the_example(self):
        pair = Pair(2, 2)
        self.assertEqual((project_lot(pair, 9, 0), project_lot(pair, 9, 1), boxed_lot(pair, 9)), (3, 3, 15))
        self.assertIs(is_box(pair, 9), False)
        self.assertIs(is_box(pair, 0), True)

    def test_all_lots(self):
        for pair in PAIRS:
            for lot in range(1 << pair.stands):
                couples = parts(pair, lot)
                xs, ys = {x for x, _ in couples}, {y for _, y in couples}
                self.assertEqual(project_lot(pair, lot, 0), sum([1 << x for x in xs]))
                self.assertEqual(project_lot(which=1, lot=lot, pair=pair), sum([1 << y for y in ys]))
                box = lot_of_parts(pair, product(xs, ys))
                self.assertEqual(boxed_lot(lot=lot, pair=pair), box)
                self.assertIs(is_box(lot=lot, pair=pair), lot == box)

    def test_boxes_of_all_lots(self):
        for pair in PAIRS:
            boxes = set()
            for one, other in product(lots_of_name(pair, 0), lots_of_name(pair, 1)):
                box = box_of(pair, one, other)
                self.assertEqual(box, lot_of_parts(pair, product(stands_in(one), stands_in(other))))
                self.assertEqual(box_of(other=other, one=one, pair=pair), box)
                self.assertTrue(is_box(pair, box))
                if one and other:
                    self.assertEqual((project_lot(pair, box, 0), project_lot(pair, box, 1)), (one, other))
                else:
                    self.assertEqual(box, 0)
                boxes.add(box)
            self.assertEqual(boxes, {lot for lot in range(1 << pair.stands) if is_box(pair, lot)})

    def test_the_least_box(self):
        for pair in PAIRS:
            boxes = [lot for lot in range(1 << pair.stands) if is_box(pair, lot)]
            for lot in range(1 << pair.stands):
                above = [box for box in boxes if lot & ~box == 0]
                self.assertTrue(all(boxed_lot(pair, lot) & ~box == 0 for box in above))
                self.assertIn(boxed_lot(pair, lot), above)

    def test_wrong_lots(self):
        for pair in PAIRS:
            for lot in NO_WHOLES + (1 << pair.stands, 64):
                for which in (0, 1, 2, None, "0"):
                    self.assertEqual(error_of(project_lot, pair, lot, which), (BadLot, ()), lot)
                self.assertEqual(error_of(boxed_lot, pair, lot), (BadLot, ()), lot)
                self.assertEqual(error_of(is_box, pair, lot), (BadLot, ()), lot)
            for lot in NO_WHOLES + (1 << pair.first,):
                self.assertEqual(error_of(box_of, pair, lot, 1), (BadLot, ()), lot)
                self.assertEqual(error_of(box_of, pair, lot, None), (BadLot, ()), lot)
            for lot in NO_WHOLES + (1 << pair.second,):
                self.assertEqual(error_of(box_of, pair, 1, lot), (BadLot, ()), lot)
                self.assertEqual(error_of(box_of, pair, 0, lot), (BadLot, ()), lot)

    def test_wrong_sides(self):
        for pair in PAIRS:
            for which in NO_SIDES:
                self.assertEqual(error_of(project_lot, pair, 1, which), (BadSide, ()), which)


class Rows(unittest.TestCase):
    def side_by_document(self, pair, which, row):
        found = []
        for x, y in product(range(pair.first), range(pair.second)):
            if which == 0:
                found.append(lot_of_parts(pair, [(to, y) for to in stands_in(row[x])]))
            else:
                found.append(lot_of_parts(pair, [(x, to) for to in stands_in(row[y])]))
        return tuple(found)

    def test_the_example(self):
        self.assertEqual(side_row(Pair(2, 2), 0, (2, 1)), (4, 8, 1, 2))
        self.assertEqual(side_row(Pair(2, 2), 1, (2, 1)), (2, 1, 8, 4))

    def test_side_rows(self):
        for pair in PAIRS:
            for which in (0, 1):
                many = (pair.first, pair.second)[which]
                for row in all_rows(many)[::1 + 4 * (many == 3)]:
                    due = self.side_by_document(pair, which, row)
                    self.assertEqual(side_row(pair, which, row), due)
                    self.assertEqual(side_row(row=list(row), which=which, pair=pair), due)
                    names = [row[stand // pair.second if which == 0 else stand % pair.second]
                             for stand in range(pair.stands)]
                    self.assertEqual(cross_row(pair, which, names), due)

    def test_cross_rows(self):
        draw = Random(93)
        for pair in PAIRS:
            for which in (0, 1):
                lots = lots_of_name(pair, which)
                for _ in range(60):
                    table = [draw.choice(lots) for _ in range(pair.stands)]
                    due = []
                    for stand, (x, y) in enumerate(product(range(pair.first), range(pair.second))):
                        ends = stands_in(table[stand])
                        due.append(lot_of_parts(pair, [(to, y) if which == 0 else (x, to) for to in ends]))
                    for kind in (list, tuple):
                        row = cross_row(table=kind(table), which=which, pair=pair)
                        self.assertEqual((type(row), row), (tuple, tuple(due)))

    def test_wrong_sides_come_first(self):
        for which in NO_SIDES:
            for row in (None, (1,), (9, 9), (2, 1), (2, 1, 2, 1)):
                self.assertEqual(error_of(side_row, Pair(2, 2), which, row), (BadSide, ()), which)
                self.assertEqual(error_of(cross_row, Pair(2, 2), which, row), (BadSide, ()), which)

    def test_wrong_rows(self):
        for pair in PAIRS:
            for which in (0, 1):
                many = (pair.first, pair.second)[which]
                for row in NO_SEQUENCES + ((1,) * (many + 1), [1] * (many - 1), (0,) * pair.stands):
                    self.assertEqual(error_of(side_row, pair, which, row), (BadRow, (None,)), row)
                for lot in NO_WHOLES + (1 << many,):
                    for place in range(many):
                        row = [1] * place + [lot] * (many - place)
                        self.assertEqual(error_of(side_row, pair, which, row), (BadRow, (place,)), lot)
                        self.assertEqual(error_of(side_row, pair, which, tuple(row)), (BadRow, (place,)), lot)

    def test_wrong_tables(self):
        for pair in PAIRS:
            for which in (0, 1):
                many = (pair.first, pair.second)[which]
                for table in NO_SEQUENCES + ((1,) * (pair.stands - 1), [1] * (pair.stands + 1), some_rows(many)[0]):
                    self.assertEqual(error_of(cross_row, pair, which, table), (BadRow, (None,)), table)
                for lot in NO_WHOLES + (1 << many,):
                    for place in range(pair.stands):
                        table = [1] * place + [lot] * (pair.stands - place)
                        self.assertEqual(error_of(cross_row, pair, which, table), (BadRow, (place,)), lot)
                        self.assertEqual(error_of(cross_row, pair, which, tuple(table)), (BadRow, (place,)), lot)


if __name__ == "__main__":
    unittest.main()
