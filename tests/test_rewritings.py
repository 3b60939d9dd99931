"""[7.1] to [7.5]: rewritings, spots and moves."""

import unittest
from random import Random

from helpers import (
    NO_SEQUENCES, NO_WHOLES, drawn_glasses, drawn_program, drawn_steps, error_of, every_glasses, nested, programs_of)
from truealarms.errors import BadMove, BadRewriting, NoMove
from truealarms.glasses import Glasses
from truealarms.programs import program_size
from truealarms.programtext import read_program
from truealarms.rewritings import (
    letters_of, moves_in, part_at, rewriting_names, rewriting_pair, rewritten_at, rewritten_by, spots_of, verdict_of)
from truealarms.seenends import seen_end
from truealarms.steps import Steps
from truealarms.trueends import same_ends, true_end

# The table of the document.
TABLE = (
    ("bracket_behind", 3, "(r; s); t", "r; (s; t)", "alike"),
    ("drop_first", 1, "nothing; r", "r", "alike"),
    ("drop_last", 1, "r; nothing", "r", "alike"),
    ("drop_double", 1, "r | r", "r", "alike"),
    ("turn_either", 2, "r | s", "s | r", "alike"),
    ("bracket_either", 3, "(r | s) | t", "r | (s | t)", "alike"),
    ("spread_first", 3, "r; (s | t)", "(r; s) | (r; t)", "alike"),
    ("again_once", 1, "(r*)*", "r*", "alike"),
    ("again_twice", 1, "r*; r*", "r*", "alike"),
    ("again_mixed", 2, "(r | s)*", "(r*; s*)*", "alike"),
    ("again_ended", 1, "r*", "nothing | (r*; r)", "alike"),
    ("again_turns", 2, "(r | s)*", "(r*; s)*; r*", "alike"),
    ("spread_last", 3, "(r | s); t", "(r; t) | (s; t)", "sharper"),
    ("unroll", 1, "r*", "nothing | (r; r*)", "sharper"),
    ("slide_one", 1, "r*; r", "r; r*", "sharper"),
    ("slide_two", 2, "(r; s)*; r", "r; (s; r)*", "sharper"),
    ("part_again", 2, "(r | s)*", "r*; (s; r*)*", "sharper"),
    ("halve_again", 1, "r*", "(nothing | r); (r; r)*", "sharper"),
)
NAMES = tuple([line[0] for line in TABLE])
LETTERS = (("step", "r"), ("step", "s"), ("step", "t"))
NO_NAMES = NO_WHOLES + ("Unroll", "unroll ", "unrolls", "sharper", "step", ["unroll"], ("unroll",), b"unroll", 13)
F = ("step", "f")
G = ("step", "g")
STAY = ("nothing",)


def filled(program, put):
    """The program with programs put for the steps r, s and t."""
    if program[0] == "step":
        return put[program[1]]
    return (program[0], *[filled(inner, put) for inner in program[1:]])


class Table(unittest.TestCase):
    def test_names_in_order(self):
        self.assertEqual(rewriting_names(), NAMES)
        self.assertEqual((type(rewriting_names()), len(rewriting_names())), (tuple, 18))

    def test_each_line(self):
        for name, many, left, right, verdict in TABLE:
            self.assertEqual((letters_of(name), verdict_of(name)), (many, verdict), name)
            pair = rewriting_pair(name, LETTERS[:many])
            self.assertEqual(pair, (read_program(left), read_program(right)), name)
            self.assertEqual(type(pair), tuple)

    def test_programs_in_their_places(self):
        programs = [("behind", F, G), ("again", ("either", STAY, F)), ("behind", F, G)]
        put = dict(zip("rst", programs))
        for name, many, left, right, _ in TABLE:
            due = (filled(read_program(left), put), filled(read_program(right), put))
            self.assertEqual(rewriting_pair(name, programs[:many]), due, name)
            self.assertEqual(rewriting_pair(name, tuple(programs[:many])), due, name)
            self.assertEqual(rewriting_pair(programs=programs[:many], name=name), due, name)
        self.assertEqual(len(programs), 3)

    def test_programs_are_not_checked(self):
        deep = nested(lambda inner: ("again", inner), 12)
        self.assertEqual(rewriting_pair("unroll", [deep])[0], ("again", deep))
        self.assertEqual(rewriting_pair("drop_first", [("step", "Q")])[1], ("step", "Q"))

    def test_no_names(self):
        for name in NO_NAMES:
            for call in (verdict_of, letters_of):
                self.assertEqual(error_of(call, name), (BadRewriting, ("name",)), name)
            for programs in (LETTERS[:1], None, [], LETTERS * 2):
                self.assertEqual(error_of(rewriting_pair, name, programs), (BadRewriting, ("name",)), name)

    def test_too_few_and_too_many_programs(self):
        for name, many, *_ in TABLE:
            for length in range(6):
                due = None if length == many else (BadRewriting, ("many",))
                for kind in (list, tuple):
                    self.assertEqual(error_of(rewriting_pair, name, kind((LETTERS * 2)[:length])), due, (name, length))
            for programs in NO_SEQUENCES + ("r", "rs", "rst", 1, 3):
                self.assertEqual(error_of(rewriting_pair, name, programs), (BadRewriting, ("many",)), programs)


class Ends(unittest.TestCase):
    """[7.3] for drawn glasses, steps and programs, and for all starts."""

    def check_pair(self, glasses, steps, pair, verdict):
        left, right = pair
        self.assertTrue(same_ends(steps, left, right))
        sharper = 0
        for lot in range(glasses.every + 1):
            seen, other = seen_end(glasses, steps, left, lot), seen_end(glasses, steps, right, lot)
            self.assertEqual(other & ~seen, 0)
            sharper += seen != other
            if seen == glasses.rounded(true_end(steps, left, lot)):
                self.assertEqual(other, seen)
        self.assertTrue(sharper == 0 or verdict == "sharper")
        return sharper

    def check_drawn(self, draw, stands, wrap, agains):
        glasses, steps = drawn_glasses(draw, stands), drawn_steps(draw, stands)
        for name in NAMES:
            sizes = [draw.randrange(1, 5) for _ in range(letters_of(name))]
            programs = [drawn_program(draw, size, agains=agains) for size in sizes]
            left, right = rewriting_pair(name, programs)
            self.check_pair(glasses, steps, (wrap(left), wrap(right)), verdict_of(name))

    def test_the_whole_program(self):
        draw = Random(71)
        for stands in (1, 2, 3):
            for _ in range(60 * stands):
                self.check_drawn(draw, stands, lambda program: program, 2)
        for _ in range(8):
            self.check_drawn(draw, 4, lambda program: program, 2)

    def test_within_a_larger_program(self):
        draw = Random(72)
        wraps = (
            lambda program: ("behind", F, program), lambda program: ("behind", program, G),
            lambda program: ("either", ("behind", G, program), F), lambda program: ("again", program),
            lambda program: ("behind", ("again", ("either", G, ("behind", program, F))), G),
            lambda program: ("again", ("behind", ("again", ("either", program, F)), program)))
        for wrap in wraps:
            for stands in (1, 2, 2, 3, 3, 3, 3, 3, 3, 3, 3, 4):
                self.check_drawn(draw, stands, wrap, 0)

    def test_steps_alone_in_all_glasses(self):
        draw = Random(73)
        for stands in (1, 2, 3):
            for glasses in every_glasses(stands):
                steps = drawn_steps(draw, stands, ("r", "s", "t"))
                for name, many, _, _, verdict in TABLE:
                    self.check_pair(glasses, steps, rewriting_pair(name, LETTERS[:many]), verdict)

    def test_false_wishes_of_the_right_are_those_of_the_left(self):
        draw = Random(74)
        for _ in range(40):
            glasses, steps = drawn_glasses(draw, 4), drawn_steps(draw, 4)
            for name in ("spread_last", "unroll", "slide_two", "halve_again"):
                left, right = rewriting_pair(name, [drawn_program(draw, 3) for _ in range(letters_of(name))])
                lot = draw.randrange(16)
                end = true_end(steps, left, lot)
                for wish in glasses.members:
                    false = end & ~wish == 0 and seen_end(glasses, steps, right, lot) & ~wish != 0
                    self.assertTrue(not false or seen_end(glasses, steps, left, lot) & ~wish != 0)

    def test_the_example_of_the_document(self):
        glasses, steps = Glasses(4, (0, 1, 2, 7, 15)), Steps(4, [("f", (2, 2, 8, 8))])
        left, right = rewriting_pair("unroll", [F])
        self.assertEqual((seen_end(glasses, steps, left, 1), seen_end(glasses, steps, right, 1)), (15, 7))
        self.assertEqual(true_end(steps, left, 1), 3)


class Spots(unittest.TestCase):
    def spots_by_document(self, program):
        inner = () if program[0] == "step" else program[1:]
        found = [()]
        for turn, part in enumerate(inner):
            found += [(turn,) + spot for spot in self.spots_by_document(part)]
        return found

    def test_in_order(self):
        self.assertEqual(list(spots_of(F)), [()])
        self.assertEqual(list(spots_of(STAY)), [()])
        self.assertEqual(list(spots_of(("again", F))), [(), (0,)])
        program = ("behind", ("again", ("either", F, G)), ("either", STAY, ("again", G)))
        self.assertEqual(list(spots_of(program)), [
            (), (0,), (0, 0), (0, 0, 0), (0, 0, 1), (1,), (1, 0), (1, 1), (1, 1, 0)])

    def test_against_the_document(self):
        draw = Random(75)
        for program in programs_of(4)[::7] + [drawn_program(draw, 40) for _ in range(30)]:
            spots = list(spots_of(program))
            self.assertEqual(spots, self.spots_by_document(program))
            self.assertEqual(spots, sorted(spots))
            self.assertEqual(len(spots), program_size(program))
            self.assertTrue(all(type(spot) is tuple for spot in spots))

    def test_parts(self):
        program = ("behind", ("again", ("either", F, G)), ("either", STAY, ("again", G)))
        for kind in (list, tuple):
            self.assertEqual(part_at(program, kind([])), program)
            self.assertEqual(part_at(program, kind([0])), ("again", ("either", F, G)))
            self.assertEqual(part_at(program, kind([0, 0, 1])), G)
            self.assertEqual(part_at(program, kind([1, 0])), STAY)
            self.assertEqual(part_at(program, kind([1, 1])), ("again", G))
        self.assertEqual(part_at(spot=(0,), program=program), ("again", ("either", F, G)))

    def test_parts_of_all_spots(self):
        draw = Random(76)
        for _ in range(30):
            program = drawn_program(draw, 30)
            for spot in spots_of(program):
                part = program
                for turn in spot:
                    part = part[turn + 1]
                self.assertEqual(part_at(program, spot), part)

    def test_spots_that_lead_nowhere(self):
        program = ("behind", ("again", F), STAY)
        for spot in NO_SEQUENCES + (
                (2,), (-1,), (0, 1), (0, 0, 0), (1, 0), (1, 1), (0, 2), (True,), (False,), [0, False], (0.0,), ("0",),
                (None,), ((0,),), (0, 0, 1), [10 ** 30], (-2,), [0] * 900):
            self.assertEqual(error_of(part_at, program, spot), (NoMove, ("spot",)), spot)
            for name in ("unroll", "none", None):
                self.assertEqual(error_of(rewritten_at, program, spot, name), (NoMove, ("spot",)), spot)


def moves_by_document(program, names):
    """All moves: left and right are compared with the table for all programs at the spots below."""
    found = []
    for spot in spots_of(program):
        part = part_at(program, spot)
        for name, _, left, _, _ in TABLE:
            if name in names and is_shaped(read_program(left), part, {}):
                found.append((spot, name))
    return found


def is_shaped(left, part, put):
    if left[0] == "step":
        return put.setdefault(left[1], part) == part
    if left[0] != part[0]:
        return False
    return all([is_shaped(one, two, put) for one, two in zip(left[1:], part[1:])])


class Moves(unittest.TestCase):
    def test_those_of_an_again(self):
        self.assertEqual(list(moves_in(("again", F))), [((), "again_ended"), ((), "unroll"), ((), "halve_again")])
        twice = ("again", ("again", F))
        self.assertEqual(list(moves_in(twice)), [
            ((), "again_once"), ((), "again_ended"), ((), "unroll"), ((), "halve_again"),
            ((0,), "again_ended"), ((0,), "unroll"), ((0,), "halve_again")])
        self.assertEqual(list(moves_in(F)), [])
        self.assertEqual(list(moves_in(STAY)), [])

    def test_letters_that_stand_twice(self):
        self.assertEqual(list(moves_in(("either", F, F))), [((), "drop_double"), ((), "turn_either")])
        self.assertEqual(list(moves_in(("either", F, G))), [((), "turn_either")])
        self.assertEqual(list(moves_in(("behind", ("again", F), ("again", F)), names=["again_twice"])), [
            ((), "again_twice")])
        self.assertEqual(list(moves_in(("behind", ("again", F), ("again", G)), names=["again_twice"])), [])
        self.assertEqual(list(moves_in(("behind", ("again", F), F), names=["slide_one"])), [((), "slide_one")])
        self.assertEqual(list(moves_in(("behind", ("again", F), G), names=["slide_one"])), [])
        slide = ("behind", ("again", ("behind", F, G)), F)
        self.assertEqual(list(moves_in(slide, names=["slide_two"])), [((), "slide_two")])
        self.assertEqual(list(moves_in(slide[:2] + (G,), names=["slide_two"])), [])

    def test_names_in_any_order_and_twice(self):
        program = ("either", ("again", F), ("again", F))
        due = [((), "drop_double"), ((0,), "unroll"), ((0,), "halve_again"), ((1,), "unroll"), ((1,), "halve_again")]
        for names in (["halve_again", "unroll", "drop_double"], ("unroll", "drop_double", "unroll", "halve_again")):
            self.assertEqual(list(moves_in(program, names=names)), due)
        self.assertEqual(list(moves_in(program, names=[])), [])
        self.assertEqual(list(moves_in(program, names=None)), list(moves_in(program)))
        self.assertEqual(list(moves_in(program, names=NAMES[::-1])), list(moves_in(program)))
        self.assertEqual(list(moves_in(names=("drop_double",), program=program)), due[:1])

    def test_names_are_given_by_name_alone(self):
        with self.assertRaises(TypeError):
            list(moves_in(F, None))

    def test_against_the_document(self):
        draw = Random(77)
        many = 0
        for program in programs_of(4)[::5] + programs_of(5, ("f",))[::5] + [drawn_program(draw, 25) for _ in range(40)]:
            moves = list(moves_in(program))
            self.assertEqual(moves, moves_by_document(program, NAMES))
            self.assertTrue(all(type(move) is tuple and type(move[0]) is tuple for move in moves))
            names = [draw.choice(NAMES) for _ in range(draw.randrange(8))]
            self.assertEqual(list(moves_in(program, names=names)), moves_by_document(program, names))
            many += len(moves)
        self.assertGreater(many, 500)

    def test_wrong_names(self):
        for names in NO_SEQUENCES[1:] + ("unroll", ["unroll", "none"], [None], ([],), [["unroll"]], (True,)):
            self.assertEqual(error_of(lambda: list(moves_in(F, names=names))), (BadRewriting, ("name",)), names)


class Rewritten(unittest.TestCase):
    def test_at_a_spot(self):
        program = ("behind", ("again", F), ("either", G, ("again", ("behind", F, G))))
        self.assertEqual(rewritten_at(program, (0,), "unroll"), (
            "behind", ("either", STAY, ("behind", F, ("again", F))), program[2]))
        self.assertEqual(rewritten_at(program, [1], "turn_either"), (
            "behind", ("again", F), ("either", ("again", ("behind", F, G)), G)))
        self.assertEqual(rewritten_at(program, (), "spread_first"), (
            "either", ("behind", program[1], G), ("behind", program[1], program[2][2])))
        self.assertEqual(rewritten_at(name="halve_again", spot=(1, 1), program=program)[2][2], (
            "behind", ("either", STAY, ("behind", F, G)), ("again", ("behind", ("behind", F, G), ("behind", F, G)))))

    def test_each_move_puts_the_right_there(self):
        draw = Random(78)
        for _ in range(60):
            program = drawn_program(draw, 20)
            for spot, name in moves_in(program):
                _, _, left, right, _ = TABLE[NAMES.index(name)]
                put = {}
                self.assertTrue(is_shaped(read_program(left), part_at(program, spot), put))
                moved = rewritten_at(program, spot, name)
                self.assertEqual(part_at(moved, spot), filled(read_program(right), put))
                for other in spots_of(program):
                    # Above, below and at the spot the programs change; beside it they stay.
                    if other[:len(spot)] != spot and spot[:len(other)] != other:
                        self.assertEqual(part_at(moved, other), part_at(program, other))
                    elif spot[:len(other)] == other and spot != other:
                        self.assertEqual(part_at(moved, other)[0], part_at(program, other)[0])

    def test_words_in_order(self):
        program = ("behind", ("again", F), G)
        for name in NO_NAMES:
            self.assertEqual(error_of(rewritten_at, program, (0, 1), name), (NoMove, ("spot",)), name)
            self.assertEqual(error_of(rewritten_at, program, (0,), name), (NoMove, ("name",)), name)
        for spot in spots_of(program):
            moves = list(moves_in(program))
            for name in NAMES:
                due = None if (spot, name) in moves else (NoMove, ("shape",))
                self.assertEqual(error_of(rewritten_at, program, spot, name), due, (spot, name))

    def test_letters_that_stand_twice(self):
        equal = ("either", ("behind", F, G), ("behind", F, G))
        self.assertEqual(rewritten_at(equal, (), "drop_double"), ("behind", F, G))
        unlike = ("either", ("behind", F, G), ("behind", F, F))
        self.assertEqual(error_of(rewritten_at, unlike, (), "drop_double"), (NoMove, ("shape",)))
        self.assertEqual(error_of(rewritten_at, ("behind", ("again", F), G), (), "slide_one"), (NoMove, ("shape",)))

    def test_larger_than_check_program_lets(self):
        program = ("again", nested(lambda inner: ("behind", inner, G), 11))
        for k in range(6):
            program = rewritten_at(program, (1,) * k, "halve_again")
        self.assertGreater(program_size(program), 2000)
        self.assertEqual(len(list(spots_of(program))), program_size(program))


class Chains(unittest.TestCase):
    CHAIN = (((), "unroll"), ((1,), "turn_either"), ((), "turn_either"))

    def test_all_programs(self):
        start = ("again", ("either", F, G))
        moves = [((), "unroll"), [[1, 0], "turn_either"], ((), "turn_either"), ((0,), "spread_last")]
        unrolled = ("either", STAY, ("behind", ("either", F, G), start))
        turned = ("either", STAY, ("behind", ("either", G, F), start))
        spread = ("either", ("behind", G, start), ("behind", F, start))
        due = (start, unrolled, turned, ("either", turned[2], STAY), ("either", spread, STAY))
        for kind in (list, tuple):
            chain = rewritten_by(start, kind(moves))
            self.assertEqual((type(chain), chain), (tuple, due))
        self.assertEqual(rewritten_by(moves=moves, program=start), due)
        self.assertEqual(rewritten_by(start, []), (start,))
        self.assertEqual(len(moves), 4)

    def test_each_word_with_its_index(self):
        start = ("behind", ("again", F), G)
        right = [((0,), "unroll"), ((0, 1, 1), "halve_again")]
        wrongs = [(move, "move") for move in NO_SEQUENCES + ((), [()], ((), "unroll", 1), ["unroll"])]
        wrongs += [((spot, "none"), "spot") for spot in ((2,), (1, 0), None, "", (True,), [0, 1, 1, 0, 0, 0, 0])]
        wrongs += [([(), name], "name") for name in NO_NAMES]
        wrongs += [[[(), name], "shape"] for name in ("drop_first", "slide_one", "again_twice")]
        for many in range(3):
            for wrong, word in wrongs:
                moves = right[:many] + [wrong, None]
                self.assertEqual(error_of(rewritten_by, start, moves), (BadMove, (many, word)), (moves, word))

    def test_a_spot_that_was_there_before(self):
        moves = [((), "drop_first"), ((0,), "unroll")]
        program = ("behind", STAY, F)
        self.assertEqual(part_at(program, (0,)), STAY)
        self.assertEqual(error_of(rewritten_by, program, moves), (BadMove, (1, "spot")))

    def test_no_sequence(self):
        for moves in NO_SEQUENCES:
            self.assertEqual(error_of(rewritten_by, ("again", F), moves), (BadMove, (0, "moves")), moves)

    def test_many_moves_ever_deeper(self):
        moves = [((1, 1) * k, "unroll") for k in range(400)]
        programs = rewritten_by(("again", F), moves)
        self.assertEqual(len(programs), 401)
        self.assertEqual(part_at(programs[-1], (1, 1) * 400), ("again", F))
        self.assertEqual(part_at(programs[-1], (1, 1) * 300 + (1, 0)), F)

    def test_chains_keep_all_ends(self):
        draw = Random(79)
        for _ in range(25):
            glasses, steps, program = drawn_glasses(draw, 3), drawn_steps(draw, 3), drawn_program(draw, 8)
            moves = []
            for _ in range(5):
                found = list(moves_in(rewritten_by(program, moves)[-1]))
                if found:
                    moves.append(draw.choice(found))
            programs = rewritten_by(program, moves)
            self.assertEqual(len(programs), len(moves) + 1)
            for one, other in zip(programs, programs[1:]):
                for lot in range(8):
                    # A chain may lead to programs that are larger than those that are let.
                    if program_size(other) <= 40 and not error_of(true_end, steps, other, lot):
                        self.assertEqual(true_end(steps, one, lot), true_end(steps, other, lot))
                        seen = seen_end(glasses, steps, other, lot)
                        self.assertEqual(seen & ~seen_end(glasses, steps, one, lot), 0)


if __name__ == "__main__":
    unittest.main()
