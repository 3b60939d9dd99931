"""[9.7] and [9.8]: the steps of a pair, and shadows."""

import unittest
from itertools import product
from random import Random

from helpers import drawn_glasses, drawn_program, drawn_row, error_of, every_glasses, nested
from truealarms.apartness import apart_glasses
from truealarms.errors import BadProgram, BadSteps, UnlikeStands
from truealarms.exactness import exact_at
from truealarms.names import Pair, box_of, project_lot, side_row
from truealarms.programs import program_size
from truealarms.seenends import seen_end
from truealarms.shadows import shadow_program, side_steps
from truealarms.steps import Steps
from truealarms.trueends import true_end

F = ("step", "f")
G = ("step", "g")
H = ("step", "h")
STAY = ("nothing",)
NUMBERS = ((2, 2), (2, 3), (3, 2))
LETTERS = "abcdefghijklmnopqrstuvwxyz"


def going_row(draw, stands):
    """A row that goes somewhere from each stand."""
    return tuple([lot or 1 << draw.randrange(stands) for lot in drawn_row(draw, stands)])


class SideSteps(unittest.TestCase):
    def test_order_and_names(self):
        pair = Pair(2, 3)
        one, other = Steps(2, [("z", (2, 1)), ("a", (3, 0))]), Steps(3, [("m", (2, 4, 4)), ("b", (1, 1, 1))])
        steps = side_steps(pair, one, other)
        self.assertEqual((steps.stands, steps.names), (6, ("z", "a", "m", "b")))
        due = [side_row(pair, 0, row) for row in one.rows] + [side_row(pair, 1, row) for row in other.rows]
        self.assertEqual(list(steps.rows), due)
        self.assertEqual(side_steps(other=other, one=one, pair=pair), steps)
        self.assertEqual(side_steps(pair, one, Steps(3, [])).names, ("z", "a"))
        self.assertEqual(side_steps(pair, Steps(2, []), Steps(3, [])), Steps(6, []))

    def test_unlike_stands(self):
        for first, second in NUMBERS:
            pair = Pair(first, second)
            for stands, others in product(range(1, 7), repeat=2):
                due = None if (stands, others) == (first, second) else (UnlikeStands, ())
                one, other = Steps(stands, [("f", (1,) * stands)]), Steps(others, [("g", (1,) * others)])
                self.assertEqual(error_of(side_steps, pair, one, other), due)
                if due:
                    same = Steps(others, [("f", (1,) * others)])
                    self.assertEqual(error_of(side_steps, pair, one, same), due)

    def test_a_name_twice(self):
        pair = Pair(2, 2)
        one = Steps(2, [("f", (1, 2)), ("g", (1, 2)), ("h", (1, 2))])
        for names, place in (("f", 3), ("xf", 4), ("xyh", 5), ("gf", 3), ("xgf", 4)):
            other = Steps(2, [(name, (2, 1)) for name in names])
            self.assertEqual(error_of(side_steps, pair, one, other), (BadSteps, ("name", place)), names)

    def test_more_than_twenty(self):
        for many, further in ((20, 0), (20, 1), (0, 20), (10, 10), (10, 11), (19, 2)):
            one = Steps(2, [(letter, (1, 2)) for letter in LETTERS[:many]])
            other = Steps(2, [(letter * 2, (2, 1)) for letter in LETTERS[:further]])
            due = (BadSteps, ("entries", 0)) if many + further > 20 else None
            self.assertEqual(error_of(side_steps, Pair(2, 2), one, other), due)
            same = Steps(2, [(letter, (2, 1)) for letter in LETTERS[:further]])
            if due:
                self.assertEqual(error_of(side_steps, Pair(2, 2), one, same), due)


class Shadows(unittest.TestCase):
    STEPS = Steps(4, [("f", (1, 2, 4, 8)), ("g", (2, 1, 8, 4)), ("h", (1, 1, 1, 1))])

    def test_shape(self):
        kept = Steps(2, [("g", (1, 2))])
        program = ("again", ("either", ("behind", F, G), ("behind", STAY, ("again", H))))
        due = ("again", ("either", ("behind", STAY, G), ("behind", STAY, ("again", STAY))))
        self.assertEqual(shadow_program(self.STEPS, program, kept), due)
        self.assertEqual(shadow_program(kept=kept, program=program, steps=self.STEPS), due)
        self.assertEqual(shadow_program(self.STEPS, program, self.STEPS), program)
        self.assertEqual(shadow_program(self.STEPS, F, Steps(3, [])), STAY)
        self.assertEqual(shadow_program(self.STEPS, F, Steps(6, [("f", (1,) * 6)])), F)

    def test_drawn_programs(self):
        draw = Random(907)
        for _ in range(200):
            program = drawn_program(draw, 30, ("f", "g", "h"))
            names = [name for name in "fgh" if draw.randrange(2)]
            shadow = shadow_program(self.STEPS, program, Steps(3, [(name, (1, 1, 1)) for name in names]))
            self.assertEqual(shadow, self.by_document(program, names))
            self.assertEqual(program_size(shadow), program_size(program))

    def by_document(self, program, names):
        if program[0] == "step":
            return program if program[1] in names else STAY
        return (program[0], *[self.by_document(inner, names) for inner in program[1:]])

    def test_wrong_programs(self):
        kept = Steps(2, [("g", (1, 2)), ("k", (1, 2))])
        for program, what in (
                (None, "kind"), (["step", "f"], "kind"), (("step", "k"), "name"), (("again", ["nothing"]), "kind"),
                (nested(lambda inner: ("again", inner), 5), "again"),
                (nested(lambda inner: ("behind", inner, STAY), 12), "deep")):
            self.assertEqual(error_of(shadow_program, self.STEPS, program, kept), (BadProgram, (what,)))
        self.assertIsNone(error_of(shadow_program, kept, ("step", "k"), self.STEPS))


class SeenApart(unittest.TestCase):
    """[9.8] for drawn programs that mix steps of both names."""

    def check_case(self, draw, numbers, rows, going):
        first, second = numbers
        pair = Pair(first, second)
        one, other = drawn_glasses(draw, first), drawn_glasses(draw, second)
        if draw.randrange(3) == 0:
            one, other = draw.choice(every_glasses(first)), draw.choice(every_glasses(second))
        mine = Steps(first, list(zip(("f", "g"), [rows(draw, first) for _ in range(2)])))
        others = Steps(second, list(zip(("h", "k"), [rows(draw, second) for _ in range(2)])))
        steps, apart = side_steps(pair, mine, others), apart_glasses(one, other)
        program = drawn_program(draw, draw.randrange(1, 14), ("f", "g", "h", "k"))
        shadows = (shadow_program(steps, program, mine), shadow_program(steps, program, others))
        for lot in range(0 if not going else 1, 1 << pair.stands, 1 + draw.randrange(3)):
            starts = (project_lot(pair, lot, 0), project_lot(pair, lot, 1))
            seen = seen_end(apart, steps, program, lot)
            seens = (seen_end(one, mine, shadows[0], starts[0]), seen_end(other, others, shadows[1], starts[1]))
            box = box_of(pair, *seens)
            end = true_end(steps, program, lot)
            ends = (true_end(mine, shadows[0], starts[0]), true_end(others, shadows[1], starts[1]))
            told = (project_lot(pair, end, 0), project_lot(pair, end, 1))
            self.assertEqual((seen & ~box, told[0] & ~ends[0], told[1] & ~ends[1]), (0, 0, 0))
            if going:
                self.assertEqual((seen, told), (box, ends))
                exact = exact_at(one, mine, shadows[0], starts[0]) and exact_at(other, others, shadows[1], starts[1])
                self.assertEqual(exact_at(apart, steps, program, lot), exact)
            self.less += seen != box

    def test_steps_that_go_somewhere_from_each_stand(self):
        draw = Random(908)
        self.less = 0
        for numbers in NUMBERS:
            for _ in range(70):
                self.check_case(draw, numbers, going_row, True)
        self.assertEqual(self.less, 0)

    def test_the_empty_start(self):
        draw = Random(909)
        for numbers in NUMBERS:
            for _ in range(40):
                pair = Pair(*numbers)
                one, other = drawn_glasses(draw, pair.first), drawn_glasses(draw, pair.second)
                mine = Steps(pair.first, [("f", going_row(draw, pair.first))])
                others = Steps(pair.second, [("h", going_row(draw, pair.second))])
                steps, program = side_steps(pair, mine, others), drawn_program(draw, 9, ("f", "h"))
                seen = seen_end(apart_glasses(one, other), steps, program, 0)
                shadows = (shadow_program(steps, program, mine), shadow_program(steps, program, others))
                box = box_of(pair, seen_end(one, mine, shadows[0], 0), seen_end(other, others, shadows[1], 0))
                self.assertEqual(seen, box)

    def test_other_steps(self):
        draw = Random(910)
        self.less = 0
        for numbers in NUMBERS:
            for _ in range(70):
                self.check_case(draw, numbers, drawn_row, False)
        self.assertGreater(self.less, 10)


if __name__ == "__main__":
    unittest.main()
