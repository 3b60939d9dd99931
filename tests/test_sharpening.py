"""[7.10]: the sharpest of the programs that come of a program by a few moves."""

import unittest
from random import Random

from helpers import (
    NO_SEQUENCES, NO_WHOLES, check_result, check_start_errors, drawn_glasses, drawn_program, drawn_steps, error_of,
    nested)
from truealarms.counters import counter_of
from truealarms.errors import BadLot, BadMost, BadProgram, BadRewriting, TooMany, UnlikeStands
from truealarms.families import made_glasses
from truealarms.glasses import Glasses
from truealarms.programs import check_program
from truealarms.programtext import read_program
from truealarms.rewritings import moves_in, rewriting_names, rewritten_at, rewritten_by
from truealarms.seenends import seen_end
from truealarms.sharpening import Sharpest, sharpest_found
from truealarms.steps import Steps

F = ("step", "f")
G = ("step", "g")
STAY = ("nothing",)
NAMES = rewriting_names()
WIDE = Glasses(4, (0, 1, 2, 7, 15))
RIVER = Steps(4, [("f", (2, 2, 8, 8))])
# Glasses and steps in which each of the sharper rewritings has a counter from the start 1.
COUNTER = counter_of("unroll")


def is_let(steps, program):
    return error_of(check_program, steps, program) is None


def tried_by_document(steps, program, names, most):
    """All programs that are tried, each with the fewest moves that lead to it."""
    fewest = {program: 0}
    level = [program]
    for many in range(1, most + 1):
        further = []
        for one in level:
            for spot, name in moves_in(one, names=names):
                other = rewritten_at(one, spot, name)
                if other not in fewest and is_let(steps, other):
                    fewest[other] = many
                    further.append(other)
        level = further
    return fewest


class Found(unittest.TestCase):
    def check_found(self, glasses, steps, program, lot, names, most):
        fewest = tried_by_document(steps, program, names, most)
        if len(fewest) > 200:
            due = (TooMany, (200,))
            self.assertEqual(error_of(sharpest_found, glasses, steps, program, lot, names, most), due)
            return None
        found = sharpest_found(glasses, steps, program, lot, names, most)
        self.assertEqual((type(found), type(found.moves)), (Sharpest, tuple))
        for move in found.moves:
            self.assertEqual((type(move), len(move), type(move[0])), (tuple, 2, tuple))
            self.assertIn(move[1], names)
        self.assertEqual(rewritten_by(program, found.moves)[-1], found.program)
        self.assertEqual(seen_end(glasses, steps, found.program, lot), found.seen)
        self.assertTrue(all(is_let(steps, one) for one in rewritten_by(program, found.moves)))
        ranks = [(bin(seen_end(glasses, steps, one, lot)).count("1"), fewest[one]) for one in fewest]
        self.assertEqual((bin(found.seen).count("1"), len(found.moves)), min(ranks))
        return found

    def test_the_example_of_the_document(self):
        found = self.check_found(WIDE, RIVER, ("again", F), 1, ["unroll"], 1)
        self.assertEqual((found.moves, found.seen), ((((), "unroll"),), 7))
        self.assertEqual(found.program, ("either", STAY, ("behind", F, ("again", F))))

    def test_no_moves(self):
        for names in ([], list(NAMES)):
            found = self.check_found(WIDE, RIVER, ("again", F), 1, names, 0)
            self.assertEqual((found.moves, found.program, found.seen), ((), ("again", F), 15))

    def test_no_names(self):
        for most in range(4):
            for names in ([], ()):
                found = self.check_found(WIDE, RIVER, ("again", F), 1, names, most)
                self.assertEqual((found.moves, found.seen), ((), 15))

    def test_names_in_any_order_and_twice(self):
        for names in (("unroll", "unroll"), ["halve_again", "unroll", "halve_again"], ["drop_first", "unroll"]):
            found = self.check_found(WIDE, RIVER, ("again", F), 1, names, 1)
            self.assertEqual(found.moves, (((), "unroll"),))

    def test_no_more_moves_than_needed(self):
        found = self.check_found(WIDE, RIVER, ("again", F), 1, ["unroll", "turn_either"], 3)
        self.assertEqual(len(found.moves), 1)
        found = self.check_found(WIDE, RIVER, ("behind", F, F), 1, ["unroll", "turn_either"], 3)
        self.assertEqual(found.moves, ())

    def test_several_moves(self):
        program = ("again", ("behind", F, ("behind", STAY, ("behind", STAY, STAY))))
        longest = 0
        for names in (
                ["drop_last", "drop_first", "unroll"], ["unroll"], ["drop_last", "bracket_behind", "halve_again"]):
            for most in range(4):
                found = self.check_found(WIDE, RIVER, program, 1, names, most)
                longest = max(longest, len(found.moves))
        steps = Steps(4, [("f", (2, 2, 8, 8)), ("g", (1, 2, 8, 8)), ("h", (2, 2, 2, 2))])
        program = ("behind", ("either", STAY, F), ("behind", ("either", STAY, ("step", "h")), ("step", "g")))
        for lot in range(16):
            found = self.check_found(WIDE, steps, program, lot, ["spread_last", "bracket_behind", "spread_first"], 2)
            longest = max(longest, len(found.moves))
        self.assertGreaterEqual(longest, 1)

    def test_drawn_programs(self):
        draw = Random(710)
        for _ in range(150):
            stands = draw.randrange(2, 5)
            glasses, steps, program = drawn_glasses(draw, stands), drawn_steps(draw, stands), drawn_program(draw, 9)
            names = [draw.choice(NAMES) for _ in range(draw.randrange(1, 6))]
            self.check_found(glasses, steps, program, draw.randrange(1 << stands), names, draw.randrange(4))

    def test_drawn_programs_that_can_be_sharpened(self):
        draw = Random(712)
        counts = [0] * 4
        for _ in range(700):
            program = drawn_program(draw, draw.randrange(5, 14), ("f", "g", "h"))
            names = [draw.choice(NAMES) for _ in range(draw.randrange(2, 7))]
            found = self.check_found(COUNTER.glasses, COUNTER.steps, program, 1, names, draw.randrange(4))
            if found is not None:
                counts[len(found.moves)] += 1
        self.assertGreater(min(counts[:3]), 0)

    def test_given_things_stay(self):
        names = ["unroll", "turn_either"]
        sharpest_found(most=2, names=names, lot=1, program=("again", F), steps=RIVER, glasses=WIDE)
        self.assertEqual(names, ["unroll", "turn_either"])

    def test_the_result(self):
        check_result(self, Sharpest, ["moves", "program", "seen"])


class PassedBy(unittest.TestCase):
    def test_programs_that_are_refused(self):
        # At the bottom of this program an unroll would make it too deep; nothing else can be done to it.
        deep = nested(lambda inner: ("behind", inner, STAY), 10, ("again", F))
        self.assertTrue(is_let(RIVER, deep))
        self.assertFalse(is_let(RIVER, rewritten_at(deep, (0,) * 10, "unroll")))
        for most in range(4):
            found = sharpest_found(WIDE, RIVER, deep, 1, ["unroll"], most)
            self.assertEqual((found.moves, found.program, found.seen), ((), deep, 15))

    def test_no_move_goes_on_from_them(self):
        # Behind an unroll the program is too deep; a drop would bring it back, but it is passed by.
        deep = nested(lambda inner: ("behind", STAY, inner), 10, ("again", F))
        moves = [((1,) * 10, "unroll"), ((), "drop_first"), ((), "drop_first")]
        programs = rewritten_by(deep, moves)
        self.assertEqual([is_let(RIVER, one) for one in programs], [True, False, False, True])
        self.assertEqual(seen_end(WIDE, RIVER, programs[3], 1), 7)
        # Dropping twice ahead of the unroll leads to the same program, and nothing else is passed by on this way.
        found = sharpest_found(WIDE, RIVER, deep, 1, ["unroll", "drop_first"], 3)
        self.assertEqual((found.seen, len(found.moves), found.program), (7, 3, programs[3]))
        self.assertTrue(all(is_let(RIVER, one) for one in rewritten_by(deep, found.moves)))
        found = sharpest_found(WIDE, RIVER, deep, 1, ["unroll", "drop_first"], 2)
        self.assertEqual((found.moves, found.seen), ((), 15))


# A program, names, how many programs are tried in three moves, and how many come up with those passed by.
CROWDS = (
    ("nothing***; (g**; g*)", ["again_ended", "spread_last"], 200, 200),
    ("(g | (g | g; f)*); g***", ["bracket_either", "turn_either", "unroll"], 201, 201),
    ("(f; g)*; ((f**; f)* | nothing*)", ["again_ended", "again_once", "again_twice", "slide_one"], 200, 227),
    ("(g* | (nothing** | g)*)*", ["bracket_either", "drop_first", "unroll"], 201, 265),
    ("(f*; (g; (nothing*; g*))*)**", ["again_turns", "halve_again", "slide_one"], 168, 509),
)


class TooManyTried(unittest.TestCase):
    STEPS = Steps(4, [("f", (2, 2, 8, 8)), ("g", (1, 2, 4, 8))])

    def test_just_200_and_just_201(self):
        for text, names, tried, up in CROWDS:
            program = read_program(text)
            fewest = tried_by_document(self.STEPS, program, names, 3)
            self.assertEqual(len(fewest), tried)
            moved = [one for one in fewest if fewest[one] < 3]
            last = {rewritten_at(one, *move) for one in moved for move in moves_in(one, names=names)}
            self.assertEqual(len(last | set(fewest)), up)
            due = (TooMany, (200,)) if tried > 200 else None
            self.assertEqual(error_of(sharpest_found, WIDE, self.STEPS, program, 1, names, 3), due, text)
            self.assertIsNone(error_of(sharpest_found, WIDE, self.STEPS, program, 1, names, 1))

    def test_it_comes_behind_all_other_errors(self):
        given = [WIDE, self.STEPS, read_program(CROWDS[1][0]), 1, CROWDS[1][1], 3]
        self.assertEqual(error_of(sharpest_found, *given), (TooMany, (200,)))
        wrongs = [
            (5, 4, (BadMost, ())), (4, ["none"], (BadRewriting, ("name",))), (3, 16, (BadLot, ())),
            (2, ("step", "h"), (BadProgram, ("name",))), (0, made_glasses(3, []), (UnlikeStands, ()))]
        for index, wrong, due in wrongs:
            given[index] = wrong
            self.assertEqual(error_of(sharpest_found, *given), due)


class Errors(unittest.TestCase):
    def test_the_first_three(self):
        check_start_errors(self, sharpest_found, ["none"], None)
        check_start_errors(self, sharpest_found, ["unroll"], 1)

    def test_names(self):
        for names in NO_SEQUENCES + ("unroll", ["unroll", "none"], [None], ([],), [["unroll"]], (True,), ["unroll", 1]):
            for most in (1, 4, None):
                call = (WIDE, RIVER, ("again", F), 1, names, most)
                self.assertEqual(error_of(sharpest_found, *call), (BadRewriting, ("name",)), names)

    def test_most(self):
        for most in NO_WHOLES + (4, 100):
            for names in ([], ["unroll"], NAMES):
                call = (WIDE, RIVER, ("again", F), 1, names, most)
                self.assertEqual(error_of(sharpest_found, *call), (BadMost, ()), most)


if __name__ == "__main__":
    unittest.main()
