"""[2.4]: programs."""

import unittest

from helpers import error_of, nested, programs_of
from truealarms.errors import BadProgram
from truealarms.programs import check_program, program_size, steps_in
from truealarms.steps import Steps

STEPS = Steps(2, [("f", (2, 1)), ("g", (3, 0))])
F = ("step", "f")
G = ("step", "g")
UNKNOWN = ("step", "h")
NO_PROGRAMS = (
    None, 0, True, "step", "f", (), ("f",), ("step",), ("step", "f", "f"), ("nothing", F), ("behind", F),
    ("behind", F, F, F), ("either",), ("either", F), ("again",), ("again", F, F), ["step", "f"], ["nothing"],
    ("Step", "f"), (("step", "f"),), (b"step", "f"), (None, "f"), (["step"], "f"), (1, "f"))


def refused(program):
    """The word with which a program is refused, or None."""
    told = error_of(check_program, STEPS, program)
    if told is None:
        return None
    assert told[0] is BadProgram
    return told[1][0]


def behind_f(program):
    return ("behind", program, F)


def behind_after_f(program):
    return ("behind", F, program)


def again(program):
    return ("again", program)


def wide(nodes, last=F):
    """A program of so many nodes, not deep, in which the last node met is the given one."""
    if nodes == 1:
        return last
    if nodes == 2:
        return ("again", last)
    left = (nodes - 1) // 2
    return ("either", wide(left), wide(nodes - 1 - left, last))


class Shapes(unittest.TestCase):
    def test_small_programs_are_returned(self):
        for size in range(1, 5):
            for program in programs_of(size):
                self.assertIs(check_program(STEPS, program), program)

    def test_kind(self):
        for thing in NO_PROGRAMS:
            self.assertEqual(refused(thing), "kind", thing)
            for program in (("behind", F, thing), ("either", thing, F), ("again", thing)):
                self.assertEqual(refused(program), "kind", program)

    def test_kind_deep_within(self):
        for thing in NO_PROGRAMS:
            self.assertEqual(refused(nested(behind_f, 11, thing)), "kind", thing)
            self.assertEqual(refused(nested(behind_after_f, 11, thing)), "kind", thing)

    def test_name(self):
        for name in ("h", "", "nothing", "F", "ff", None, 0, True, ["f"], ("f",), F, STEPS):
            self.assertEqual(refused(("step", name)), "name", name)
        self.assertEqual(error_of(check_program, Steps(2, []), F), (BadProgram, ("name",)))

    def test_nodes_in_reading_order(self):
        self.assertEqual(refused(("behind", UNKNOWN, 5)), "name")
        self.assertEqual(refused(("behind", 5, UNKNOWN)), "kind")
        self.assertEqual(refused(("behind", F, 5)), "kind")
        self.assertEqual(refused(("either", ("again", UNKNOWN), ("again",))), "name")
        self.assertEqual(refused(("either", ("again",), UNKNOWN)), "kind")
        # All within the left one comes ahead of the right one, however deep.
        self.assertEqual(refused(("behind", nested(behind_f, 12), UNKNOWN)), "deep")
        self.assertEqual(refused(("behind", UNKNOWN, nested(behind_f, 12))), "name")
        self.assertEqual(refused(("behind", nested(again, 5), 5)), "again")
        self.assertEqual(refused(("behind", nested(behind_after_f, 3, UNKNOWN), 5)), "name")


class Bounds(unittest.TestCase):
    def test_twelve_nodes_one_within_another(self):
        for wrap in (behind_f, behind_after_f):
            self.assertIsNone(refused(nested(wrap, 11)))
            self.assertEqual(refused(nested(wrap, 12)), "deep")
        self.assertIsNone(refused(nested(again, 4, nested(behind_f, 7))))
        self.assertEqual(refused(nested(again, 4, nested(behind_f, 8))), "deep")

    def test_deep_comes_first(self):
        for thing in NO_PROGRAMS + (UNKNOWN, ("again", F)):
            self.assertEqual(refused(nested(behind_f, 12, thing)), "deep", thing)
        self.assertEqual(refused(nested(again, 4, nested(behind_f, 8, ("again", F)))), "deep")

    def test_sixty_nodes(self):
        self.assertEqual(program_size(wide(60)), 60)
        self.assertIsNone(refused(wide(60)))
        self.assertEqual(refused(wide(61)), "long")
        self.assertEqual(refused(wide(300)), "long")

    def test_long_ahead_of_the_words_behind_it(self):
        for thing in NO_PROGRAMS + (UNKNOWN,):
            self.assertNotEqual(refused(wide(60, thing)), "long")
            self.assertEqual(refused(wide(61, thing)), "long", thing)

    def test_deep_ahead_of_long(self):
        # 50 nodes on the left; on the right one chain whose twelfth inner node is the 61st and the 13th.
        chain = nested(again, 2, nested(lambda inner: ("either", inner, F), 9))
        self.assertEqual(refused(("behind", wide(48), chain)), "deep")
        for nodes in range(45, 52):
            told = refused(("behind", wide(nodes), chain))
            self.assertEqual(told, "deep" if nodes + 12 + 1 <= 61 else "long", nodes)

    def test_four_agains_one_within_another(self):
        self.assertIsNone(refused(nested(again, 4)))
        self.assertEqual(refused(nested(again, 5)), "again")
        between = nested(lambda inner: ("again", behind_after_f(inner)), 4)
        self.assertIsNone(refused(between))
        self.assertEqual(refused(("again", between)), "again")
        self.assertEqual(refused(nested(lambda inner: ("again", behind_f(inner)), 5)), "again")

    def test_agains_beside_one_another_do_not_add_up(self):
        beside = nested(again, 4)
        self.assertIsNone(refused(("either", beside, ("behind", beside, beside))))
        self.assertEqual(refused(("either", beside, ("again", beside))), "again")

    def test_words_at_the_fifth_again(self):
        self.assertEqual(refused(nested(again, 4, ("again",))), "kind")
        self.assertEqual(refused(nested(again, 5, UNKNOWN)), "again")
        self.assertEqual(refused(nested(again, 4, UNKNOWN)), "name")


class Told(unittest.TestCase):
    def test_names(self):
        self.assertEqual(steps_in(("nothing",)), ())
        self.assertEqual(steps_in(("behind", G, ("either", F, ("again", G)))), ("f", "g"))
        self.assertEqual(steps_in(("behind", ("step", "b"), ("either", ("step", "ab"), ("step", "a")))), ("a", "ab", "b"))

    def test_sizes(self):
        for size in range(1, 6):
            for program in programs_of(size):
                self.assertEqual(program_size(program), size)

    def test_names_of_steps_that_are_called_like_shapes(self):
        program = ("behind", ("step", "behind"), ("step", "again"))
        self.assertEqual((steps_in(program), program_size(program)), (("again", "behind"), 3))
        steps = Steps(1, [("behind", (0,)), ("again", (1,))])
        self.assertIs(check_program(steps, program), program)


if __name__ == "__main__":
    unittest.main()
