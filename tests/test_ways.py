"""[2.8] and [2.9]: ways."""

import unittest
from itertools import product

from helpers import NO_SEQUENCES, NO_WHOLES, error_of, nested, programs_of, runs_of, some_rows
from truealarms.errors import BadLot, BadProgram, BadStand, NoWay
from truealarms.steps import Steps
from truealarms.trueends import true_end
from truealarms.ways import Way, way_fault, way_to

LINE = Steps(3, [("f", (2, 4, 4))])
LOOSE = Steps(3, [("g", (6, 5, 1)), ("f", (2, 4, 4)), ("h", (2, 5, 7))])
F = ("step", "f")
G = ("step", "g")
H = ("step", "h")
NOTHING = ("nothing",)
MANY = ("again", ("either", ("either", F, G), H))
PROGRAMS = [program for size in range(1, 5) for program in programs_of(size)]
LONGER = [
    ("again", ("behind", ("again", ("behind", F, G)), ("either", F, NOTHING))),
    ("behind", ("again", ("either", ("behind", F, ("again", G)), G)), ("either", ("behind", G, G), ("again", F))),
    ("behind", ("either", ("behind", F, F), ("behind", G, ("behind", G, G))), ("either", G, NOTHING)),
    ("again", ("behind", F, ("behind", F, ("behind", F, G)))),
]
# The longest ways between three stands that these programs need.
LONGEST = 9


def told(way):
    return (way.start, way.names, way.stands)


def chains(steps, start, names):
    """All tuples of stands that the names lead to, from a start."""
    found = [(start,)]
    for name in names:
        row = steps.row_of(name)
        found = [line + (t,) for line in found for t in range(steps.stands) if row[line[-1]] >> t & 1]
    return [line[1:] for line in found]


def least_way(steps, runs, lot, stand):
    """The due way, found by trying all runs, the shortest ones first; None if there is none."""
    for many in sorted({len(names) for names in runs}):
        found = []
        for start in range(steps.stands):
            if lot >> start & 1:
                for names in [names for names in runs if len(names) == many]:
                    for stands in chains(steps, start, names):
                        if (stands[-1] if stands else start) == stand:
                            found.append((start, names, stands))
        if found:
            return min(found)
    return None


class WaysTo(unittest.TestCase):
    def test_example(self):
        way = way_to(LINE, ("again", F), 1, 2)
        self.assertIs(type(way), Way)
        self.assertEqual(list(vars(way).items()), [("start", 0), ("names", ("f", "f")), ("stands", (1, 2))])

    def test_no_steps(self):
        self.assertEqual(told(way_to(LINE, ("again", F), 7, 2)), (2, (), ()))
        self.assertEqual(told(way_to(LINE, NOTHING, 7, 1)), (1, (), ()))

    def test_the_fewest_steps_come_first(self):
        # From 0 two steps lead to 2, from 1 one step: the greater start with fewer steps is due.
        self.assertEqual(told(way_to(LINE, ("again", F), 3, 2)), (1, ("f",), (2,)))
        steps = Steps(2, [("a", (1, 2)), ("b", (2, 2))])
        one = ("either", ("behind", ("step", "a"), ("step", "b")), ("step", "b"))
        self.assertEqual(told(way_to(steps, one, 1, 1)), (0, ("b",), (1,)))

    def test_then_the_least_start_ahead_of_names(self):
        steps = Steps(3, [("a", (0, 4, 0)), ("b", (4, 0, 0))])
        program = ("either", ("step", "a"), ("step", "b"))
        self.assertEqual(told(way_to(steps, program, 3, 2)), (0, ("b",), (2,)))

    def test_then_the_least_names_ahead_of_stands(self):
        steps = Steps(3, [("b", (2, 4, 0)), ("a", (4, 0, 4)), ("ab", (2, 4, 4))])
        program = ("behind", ("either", ("step", "b"), ("step", "a")), ("either", ("step", "b"), ("step", "a")))
        self.assertEqual(told(way_to(steps, program, 1, 2)), (0, ("a", "a"), (2, 2)))
        program = ("either", ("step", "b"), ("step", "ab"))
        self.assertEqual(told(way_to(steps, program, 1, 1)), (0, ("ab",), (1,)))

    def test_then_the_least_stands(self):
        steps = Steps(4, [("f", (6, 8, 8, 0))])
        self.assertEqual(told(way_to(steps, ("behind", F, F), 1, 3)), (0, ("f", "f"), (1, 3)))

    def test_against_all_runs(self):
        rows = some_rows(3)
        for k in range(len(rows)):
            steps = Steps(3, [("g", rows[k]), ("f", rows[(5 * k + 3) % len(rows)])])
            for program in (PROGRAMS[::7] + LONGER):
                runs = runs_of(program, LONGEST)
                for lot, stand in product(range(8), range(3)):
                    self.check_way(steps, program, runs, lot, stand)

    def check_way(self, steps, program, runs, lot, stand):
        if not true_end(steps, program, lot) >> stand & 1:
            self.assertEqual(error_of(way_to, steps, program, lot, stand), (NoWay, (stand,)))
            return
        way = way_to(steps, program, lot, stand)
        self.assertEqual(told(way), least_way(steps, runs, lot, stand))
        self.assertIsNone(way_fault(steps, program, lot, stand, way))

    def test_long_ways(self):
        steps = Steps(6, [("f", (2, 4, 8, 16, 32, 1)), ("g", (1, 2, 4, 8, 16, 32))])
        five = nested(lambda inner: ("behind", inner, F), 4)
        way = way_to(steps, ("again", five), 1, 1)
        self.assertEqual(told(way), (0, ("f",) * 25, (1, 2, 3, 4, 5, 0) * 4 + (1,)))
        self.assertIsNone(way_fault(steps, ("again", five), 1, 1, way))

    def test_errors_in_order(self):
        for call, further in ((way_to, ()), (way_fault, (None,))):
            self.assertEqual(error_of(call, LINE, G, None, None, *further), (BadProgram, ("name",)))
            self.assertEqual(error_of(call, LINE, F, 8, None, *further), (BadLot, ()))
            for lot in NO_WHOLES:
                self.assertEqual(error_of(call, LINE, F, lot, 9, *further), (BadLot, ()), lot)
            for stand in NO_WHOLES + (3, 4):
                self.assertEqual(error_of(call, LINE, F, 0, stand, *further), (BadStand, (stand,)), stand)

    def test_no_way(self):
        self.assertEqual(error_of(way_to, LINE, ("again", F), 0, 0), (NoWay, (0,)))
        self.assertEqual(error_of(way_to, LINE, F, 7, 0), (NoWay, (0,)))


class Faults(unittest.TestCase):
    def fault(self, program, lot, stand, start, names, stands, steps=LOOSE):
        return way_fault(steps, program, lot, stand, Way(start, names, stands))

    def test_no_fault(self):
        self.assertIsNone(self.fault(MANY, 1, 0, 0, (), ()))
        self.assertIsNone(self.fault(MANY, 1, 2, 0, ("f", "f"), (1, 2)))
        self.assertIsNone(self.fault(MANY, 6, 0, 2, ("g",), (0,)))

    def test_a_way_that_is_longer_than_need_be(self):
        self.assertIsNone(self.fault(MANY, 1, 2, 0, ("f", "f", "f"), (1, 2, 2)))
        self.assertIsNone(self.fault(("again", F), 1, 2, 0, ("f",) * 60, (1,) + (2,) * 59))
        self.assertIsNone(self.fault(MANY, 1, 0, 0, ("g", "g"), (2, 0)))

    def test_start(self):
        for start in NO_WHOLES + (1, 3, -1, 10 ** 30):
            self.assertEqual(self.fault(MANY, 5, 2, start, None, None), "start", start)
        self.assertEqual(self.fault(MANY, 0, 0, 0, (), ()), "start")

    def test_name(self):
        for names in NO_SEQUENCES + ([], ["f"], ["f", "f"]):
            self.assertEqual(self.fault(MANY, 1, 2, 0, names, (1, 2)), "name", names)
        for name in ("x", "", "nothing", None, 0, True, ["f"], ("f",), b"f"):
            self.assertEqual(self.fault(MANY, 1, 2, 0, ("f", name), None), "name", name)

    def test_step(self):
        for stands in NO_SEQUENCES + ([1, 2], (), (1,), (1, 2, 2)):
            self.assertEqual(self.fault(MANY, 1, 2, 0, ("f", "f"), stands), "step", stands)
        for stand in NO_WHOLES + (0, 1, 3, -2):
            self.assertEqual(self.fault(MANY, 1, 2, 0, ("f", "f"), (1, stand)), "step", stand)
        self.assertEqual(self.fault(MANY, 1, 2, 0, ("f", "f"), (2, 2)), "step")
        self.assertEqual(self.fault(MANY, 3, 1, 1, ("f",), (1,)), "step")
        self.assertEqual(self.fault(MANY, 3, 2, 0, ("f",), (2,)), "step")
        self.assertEqual(self.fault(MANY, 1, 1, 0, ("f",), (True,)), "step")

    def test_end(self):
        self.assertEqual(self.fault(MANY, 1, 2, 0, (), ()), "end")
        self.assertEqual(self.fault(MANY, 1, 2, 0, ("f",), (1,)), "end")
        self.assertEqual(self.fault(MANY, 1, 0, 0, ("f",), (1,)), "end")
        self.assertEqual(self.fault(("behind", G, G), 1, 2, 0, ("f",), (1,)), "end")

    def test_program(self):
        self.assertEqual(self.fault(F, 1, 2, 0, ("f", "f"), (1, 2)), "program")
        self.assertEqual(self.fault(F, 1, 0, 0, (), ()), "program")
        self.assertEqual(self.fault(NOTHING, 1, 1, 0, ("f",), (1,)), "program")
        self.assertEqual(self.fault(F, 1, 1, 0, ("h",), (1,)), "program")
        self.assertIsNone(self.fault(NOTHING, 1, 0, 0, (), ()))

    def test_runs_of_all_small_programs(self):
        # From the only stand each step stays, so that the names alone decide.
        steps = Steps(1, [("f", (1,)), ("g", (1,))])
        tried = [names for many in range(6) for names in product("fg", repeat=many)]
        for program in PROGRAMS + LONGER:
            runs = runs_of(program, 5)
            for names in tried:
                expected = None if names in runs else "program"
                self.assertEqual(self.fault(program, 1, 0, 0, names, (0,) * len(names), steps), expected)

    def test_sixty_names(self):
        steps = Steps(1, [("f", (1,)), ("g", (1,))])
        three = ("again", ("behind", F, ("behind", F, G)))
        names = ("f", "f", "g") * 20
        self.assertIsNone(self.fault(three, 1, 0, 0, names, (0,) * 60, steps))
        for changed in (names[1:], names[:-1], names[:30] + ("g",) + names[31:]):
            self.assertEqual(self.fault(three, 1, 0, 0, changed, (0,) * len(changed), steps), "program")

    def test_a_result_keeps_what_it_is_given(self):
        start, names, stands = object(), ["f"], None
        way = Way(start, names, stands)
        self.assertIs(way.start, start)
        self.assertIs(way.names, names)
        self.assertIs(way.stands, stands)
        self.assertNotIsInstance(way, tuple)
        self.assertFalse(way == Way(start, names, stands))


if __name__ == "__main__":
    unittest.main()
