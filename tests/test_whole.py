"""Part 0 over the whole program: what holds of all functions and classes of the interface."""

import unittest
from copy import deepcopy
from importlib import import_module
from inspect import isgenerator, signature

from helpers import NO_WHOLES, check_result, error_of
from test_interface import CLASSES, FUNCTIONS, GENERATORS, PROPERTIES
from truealarms import errors
from truealarms.bench import Bench
from truealarms.blurs import Blur
from truealarms.cores import Core
from truealarms.counters import Counter
from truealarms.errors import BadLot, BadProgram, BadRow, NoMember, UnlikeStands
from truealarms.glasses import Glasses
from truealarms.names import Pair
from truealarms.parting import Parted
from truealarms.refining import Refined
from truealarms.steps import Steps
from truealarms.ways import Way

F = ("step", "f")
TWICE = ("behind", F, F)
NARROW = Glasses(3, (0, 1, 4, 7))
RIVER = Steps(3, [("f", [2, 4, 4]), ["g", (1, 1, 1)]])
PAIR = Pair(2, 2)
ALONE = Glasses(2, [0, 3])
SWAP = Steps(2, [("k", (2, 1))])
FACTS = [[2, 6], (1, 7)]
LINES = [(1, F, 2, "step", ()), (1, ("either", F, F), 2, "either", (0, 0))]
POOL = [["member", 6], ("row", "g", [2, 2, 2])]
DEMANDS = [["exact", TWICE, 1], ("quiet", F, 1, 7)]

# Arguments with which each function of the interface returns something; sequences are lists where they may be.
CALLS = {
    "is_sequence": ([1],), "is_whole": (3, 1, 5),
    "check_stands": (3,), "all_stands": (3,), "check_lot": (3, 6), "check_lots": (3, [6, 1]), "lot_of": ([2, 0],),
    "stands_of": (6,), "size_of": (6,), "is_within": (1, 3), "lot_text": (5,), "check_member": (NARROW, 4),
    "made_glasses": (3, [6, 3]), "needed_members": (NARROW,), "all_glasses": (2,), "glasses_number": (3,),
    "check_row": (3, [1, 2, 4]), "check_rows": (3, [[1, 2, 4]]), "next_lot": ([2, 4, 4], 3),
    "back_lot": ([2, 4, 4], 4), "test_row": (3, 5), "joined_row": ([1, 2], [2, 1]), "behind_row": ([1, 2], [2, 1]),
    "check_program": (RIVER, TWICE), "steps_in": (TWICE,), "program_size": (TWICE,),
    "true_end": (RIVER, TWICE, 1), "true_run": (RIVER, TWICE, 1), "meaning_row": (RIVER, TWICE),
    "unlike_stand": (RIVER, F, TWICE), "same_ends": (RIVER, F, TWICE),
    "way_to": (RIVER, TWICE, 1, 2), "way_fault": (RIVER, TWICE, 1, 2, Way(0, ("f", "f"), (1, 2))),
    "check_alike": (NARROW, RIVER), "seen_end": (NARROW, RIVER, TWICE, 1), "seen_table": (NARROW, RIVER, TWICE),
    "seen_gap": (NARROW, RIVER, TWICE, 1), "is_finer": (NARROW, NARROW),
    "rounds_of": (NARROW, RIVER, ("again", F), 1), "seen_run": (NARROW, RIVER, TWICE, 1),
    "find_fences": (NARROW, RIVER, ("again", F), 1), "fences_fault": (NARROW, RIVER, ("again", F), 1, 7, [7]),
    "sharp_at": (NARROW, [2, 4, 4], 2), "blurring_lot": (NARROW, [2, 4, 4], 2), "unsharp_member": (NARROW, [2, 4, 4]),
    "sharp_steps": (NARROW, RIVER), "blurred_lots": (NARROW, [2, 4, 4]), "greatest_blurred": (NARROW, [2, 4, 4]),
    "least_sharp": (NARROW, [2, 4, 4], 7), "sharp_core": (NARROW, [2, 4, 4]),
    "core_fault": (NARROW, [2, 4, 4], Core((0, 4, 4), [(0, 4)])),
    "step_kinds": (), "kinds_of_row": (3, [2, 4, 4]), "every_step_sharp": (NARROW, "single"),
    "exact_at": (NARROW, RIVER, TWICE, 1), "first_inexact": (NARROW, RIVER, TWICE),
    "exactness_word": (NARROW, RIVER, TWICE, 1), "all_exact": (NARROW, RIVER),
    "rule_names": (), "lines_fault": (NARROW, RIVER, LINES), "rule_counts": (LINES,),
    "wish_by_line": (NARROW, LINES[0], 4), "grown_lines": (NARROW, RIVER, LINES, 1, 2),
    "joined_lines": (NARROW, RIVER, "either", LINES, LINES), "lean_lines": (NARROW, RIVER, LINES),
    "true_lines": (RIVER, TWICE, 1), "find_lines": (NARROW, RIVER, F, 1), "has_line": (NARROW, RIVER, F, 1, 2),
    "least_ends": (NARROW, RIVER, F, 1), "least_starts": (NARROW, RIVER, F, 7),
    "starts_with_line": (NARROW, RIVER, F),
    "alarm_of": (NARROW, RIVER, TWICE, 1, 4), "false_wishes": (NARROW, RIVER, TWICE, 1),
    "starts_exact": (NARROW, RIVER, TWICE), "all_blurs": (NARROW, RIVER, TWICE, 1),
    "first_blur": (NARROW, RIVER, TWICE, 1), "start_within": (NARROW, RIVER, TWICE, 1),
    "mended_glasses": (NARROW, 6), "single_mends": (NARROW, RIVER, TWICE, 1),
    "greatest_mends": (NARROW, RIVER, TWICE, 1), "fewest_added": (NARROW, RIVER, TWICE, 1),
    "mended_run": (NARROW, RIVER, TWICE, 1),
    "fused_steps": (RIVER, "f", "g", "h", "either"),
    "split_by": (Steps(2, [("f", [1, 0]), ("g", [0, 2])]), F, "f", "g"),
    "rewriting_names": (), "verdict_of": ("unroll",), "letters_of": ("unroll",), "rewriting_pair": ("unroll", [F]),
    "spots_of": (TWICE,), "part_at": (TWICE, [1]), "moves_in": (("again", F), ["unroll"]),
    "rewritten_at": (("again", F), [], "unroll"), "rewritten_by": (("again", F), [[[], "unroll"]]),
    "counter_of": ("unroll",), "ungathered_pair": (NARROW,), "counter_in": (NARROW,), "fusing_counter": (NARROW,),
    "sharpest_found": (NARROW, RIVER, ("again", F), 1, ["unroll"], 2),
    "both_glasses": (NARROW, Glasses(3, (6, 7))), "common_glasses": (NARROW, Glasses(3, (4, 7))),
    "sharp_refinement": (NARROW, RIVER), "sharp_part": (NARROW, RIVER),
    "refined_fault": (NARROW, RIVER, Refined(Glasses(3, (0, 1, 4, 6, 7)), ((6, "back", "f", 4),))),
    "check_cells": (3, [4, 3]), "cells_of": (ALONE,), "glasses_of_cells": (3, [4, 3]), "even_glasses": (NARROW,),
    "even_refinement": (NARROW, RIVER), "cells_refined": ([4, 3], RIVER),
    "parted_fault": ([4, 3], RIVER, Parted((3, 4), ((0, 2, "", 0, 0), (1, 2, "", 0, 0)))),
    "project_lot": (PAIR, 9, 1), "box_of": (PAIR, 1, 3), "boxed_lot": (PAIR, 9), "is_box": (PAIR, 9),
    "side_row": (PAIR, 1, [2, 1]), "cross_row": (PAIR, 0, [1, 2, 3, 0]),
    "apart_glasses": (ALONE, Glasses(3, (1, 7))), "related_lots": (PAIR, Glasses(4, (6, 15))),
    "finest_apart": (PAIR, Glasses(4, (0, 12, 15))), "side_sharp": (ALONE, Glasses(3, (1, 7)), 1, [2, 4, 1]),
    "side_steps": (PAIR, Steps(2, [("f", [2, 1])]), SWAP), "shadow_program": (RIVER, TWICE, SWAP),
    "check_facts": (3, FACTS), "is_fitting": (NARROW, FACTS), "misfit_of": (3, [[1, 1], [3, 1]]),
    "finest_glasses": (3, FACTS), "coarsest_glasses": (3, FACTS), "count_fitting": (3, FACTS), "next_ask": (3, FACTS),
    "shows_surely": (3, FACTS, 3), "telling_facts": (NARROW,), "sharp_fitting": (RIVER, [[4, 4], (2, 6)]),
    "apply_edits": (NARROW, RIVER, POOL), "find_mends": (NARROW, RIVER, POOL, DEMANDS),
    "mends_fault": (NARROW, RIVER, POOL, DEMANDS, ((0,),)),
    "glasses_text": (NARROW,), "read_glasses": ("0 1 4 7 of 3",), "program_text": (TWICE,), "read_program": ("f; f",),
}
# These take a program, but no steps by which it could be checked.
UNCHECKED = (
    "spots_of", "part_at", "moves_in", "rewritten_at", "rewritten_by", "steps_in", "program_size", "program_text")
# These check nothing.
FREE = ("next_lot", "back_lot", "stands_of", "size_of", "lot_text")


def interface():
    """The functions of the interface by name, with their parameters."""
    found = {}
    for module, told in FUNCTIONS.items():
        for line in told:
            name = line.partition("(")[0]
            function = getattr(import_module(f"truealarms.{module}"), name)
            found[name] = (function, list(signature(function).parameters))
    return found


def called(name, function, given):
    """What a call gives; what a generator yields is put into a tuple."""
    if name == "moves_in":
        return tuple(function(given[0], names=given[1]))
    result = function(*given)
    return tuple(result) if isgenerator(result) else result


def plain(thing):
    """A thing with the attributes of its objects, so that it can be compared."""
    if isinstance(thing, (list, tuple)):
        return type(thing)([plain(item) for item in thing])
    if hasattr(thing, "__dict__"):
        return (type(thing), plain(list(vars(thing).items())))
    return thing


def lists_in(thing):
    """All lists in a thing, in its sequences and in the attributes of its objects."""
    if isinstance(thing, list):
        return [thing]
    inner = vars(thing).values() if hasattr(thing, "__dict__") else thing if isinstance(thing, tuple) else ()
    return [found for item in inner for found in lists_in(item)]


class Functions(unittest.TestCase):
    def test_all_are_called(self):
        self.assertEqual(sorted(CALLS), sorted(interface()))
        self.assertEqual([name for name in GENERATORS if name not in CALLS], [])

    def test_arguments_by_name_in_another_order(self):
        for name, (function, parameters) in interface().items():
            given = dict(zip(parameters, CALLS[name]))
            due = called(name, function, CALLS[name])
            result = function(**dict(list(given.items())[::-1]))
            result = tuple(result) if isgenerator(result) else result
            self.assertEqual(plain(result), plain(due), name)

    def test_sequences_that_come_out_are_tuples(self):
        for name, (function, _) in interface().items():
            result = called(name, function, CALLS[name])
            self.assertEqual(lists_in(result), [], name)

    def test_nothing_that_is_passed_in_is_changed(self):
        for name, (function, _) in interface().items():
            before = plain(deepcopy(CALLS[name]))
            called(name, function, CALLS[name])
            self.assertEqual(plain(CALLS[name]), before, name)

    def test_later_changes_have_no_effect(self):
        for name, (function, _) in interface().items():
            if not name.endswith("_fault"):
                given = deepcopy(CALLS[name])
                result = called(name, function, given)
                due = plain(deepcopy(result))
                for thing in given:
                    for found in lists_in(thing):
                        found[:] = []
                self.assertEqual(plain(result), due, name)

    def test_the_same_again(self):
        for name, (function, _) in interface().items():
            one, other = [called(name, function, CALLS[name]) for _ in range(2)]
            self.assertEqual(plain(one), plain(other), name)


class Errors(unittest.TestCase):
    def error(self, name, function, given):
        return error_of(lambda: called(name, function, given))

    def test_unlike_stands_come_first_of_all(self):
        many = 0
        for name, (function, parameters) in interface().items():
            if parameters[:2] == ["glasses", "steps"]:
                for glasses, steps in ((NARROW, Steps(2, [])), (Glasses(6, (63,)), RIVER), (Glasses(2, (3,)), RIVER)):
                    given = (glasses, steps) + (None,) * (len(parameters) - 2)
                    self.assertEqual(self.error(name, function, given), (UnlikeStands, ()), name)
                many += 1
        self.assertGreater(many, 30)

    def changed(self, name, parameters, parameter, thing):
        given = list(CALLS[name])
        given[parameters.index(parameter)] = thing
        return given

    def check_parameter(self, parameter, wrongs, left_out):
        many = 0
        for name, (function, parameters) in interface().items():
            if parameter in parameters and name not in left_out:
                for thing, due in wrongs:
                    given = self.changed(name, parameters, parameter, thing)
                    self.assertEqual(self.error(name, function, given), due, name)
                many += 1
        return many

    def test_programs(self):
        wrongs = [(None, (BadProgram, ("kind",))), (["step", "f"], (BadProgram, ("kind",))),
                  (("step", "zz"), (BadProgram, ("name",)))]
        self.assertGreater(self.check_parameter("program", wrongs, UNCHECKED), 30)

    def test_lots(self):
        wrongs = [(lot, (BadLot, ())) for lot in NO_WHOLES + (16, 64)]
        self.assertGreater(self.check_parameter("lot", wrongs, FREE), 25)

    def test_rows(self):
        wrongs = [(None, (BadRow, (None,))), ([], (BadRow, (None,))), ((1,) * 7, (BadRow, (None,)))]
        self.assertGreater(self.check_parameter("row", wrongs, FREE), 9)

    def test_wishes(self):
        wrongs = [(lot, (BadLot, ())) for lot in NO_WHOLES + (8,)] + [(2, (NoMember, ())), (6, (NoMember, ()))]
        self.assertEqual(self.check_parameter("wish", wrongs, ()), 3)

    def test_errors_keep_what_they_are_given(self):
        for name, kind in vars(errors).items():
            if isinstance(kind, type):
                thing = [1]
                many = 0 if kind is errors.CheckerError else len(signature(kind.__init__).parameters) - 1
                if kind.__init__ is ValueError.__init__:
                    continue
                error = kind(*[thing] * many)
                self.assertTrue(all(value is thing for value in vars(error).values()), name)


class Objects(unittest.TestCase):
    def test_equal_objects(self):
        groups = (
            (Glasses(3, (0, 1, 4, 7)), Glasses(3, [0, 1, 4, 7]), Glasses(3, (0, 1, 7)), Glasses(4, (15,))),
            (Steps(2, [("f", (1, 2))]), Steps(2, [["f", [1, 2]]]), Steps(2, [("g", (1, 2))]), Steps(2, [])),
            (Pair(2, 3), Pair(second=3, first=2), Pair(3, 2), Pair(2, 2)))
        for one, same, *others in groups:
            self.assertIs(one == same, True)
            self.assertIs(one != same, False)
            rest = [thing for group in groups if group[0] is not one for thing in group]
            for thing in others + rest + [None, 0, True, "", (), [], {}, object(), type(one), plain(one), vars(one)]:
                self.assertIs(one == thing, False)
                self.assertIs(thing == one, False)
                self.assertIs(one != thing, True)
        self.assertIs(Steps(2, []) == Glasses(2, (3,)), False)
        self.assertIs(Steps(2, [("f", (1, 2)), ("g", (1, 2))]) == Steps(2, [("g", (1, 2)), ("f", (1, 2))]), False)

    def test_results_keep_the_very_things(self):
        many = 0
        for module, told in CLASSES.items():
            for word, methods in told.items():
                kind = getattr(import_module(f"truealarms.{module}"), word)
                if kind not in (Glasses, Steps, Pair, Bench):
                    names = methods[0].partition("self, ")[2].rstrip(")").split(", ")
                    check_result(self, kind, names)
                    many += 1
        self.assertEqual(many, 16)

    def test_an_attribute_that_is_a_list_stays_that_list(self):
        for kind, number in ((Core, 2), (Refined, 2), (Parted, 2), (Counter, 4), (Blur, 6), (Way, 3)):
            thing = [1]
            for value in vars(kind(*[thing] * number)).values():
                self.assertIs(value, thing)

    def test_constructors_and_methods_by_name(self):
        glasses = Glasses(members=[0, 1, 4, 7], stands=3)
        self.assertEqual((glasses, glasses.rounded(lot=2)), (NARROW, 7))
        steps = Steps(entries=[("f", (2, 4, 4)), ("g", (1, 1, 1))], stands=3)
        self.assertEqual((steps, steps.row_of(name="f")), (RIVER, (2, 4, 4)))
        self.assertEqual(steps.with_row(row=[1, 2, 4], name="g").rows, ((2, 4, 4), (1, 2, 4)))
        bench = Bench(steps=steps, glasses=glasses)
        bench.change(edit=("member", 6))
        self.assertEqual(bench.verdict(wish=4, lot=1, program=TWICE), "none")
        self.assertEqual(bench.trial(wish=7, lot=1, program=TWICE, edits=[("drop", 4)]), "none")
        bench.take_back()
        self.assertEqual(bench.verdict(TWICE, 1, 4), "false")

    def test_attributes_of_constructors_are_tuples(self):
        members, row = [0, 1, 4, 7], [2, 4, 4]
        entries = [["f", row]]
        glasses, steps = Glasses(3, members), Steps(3, entries)
        members[0], row[0] = 1, 7
        entries.append(None)
        self.assertEqual((glasses.members, steps.names, steps.rows), ((0, 1, 4, 7), ("f",), ((2, 4, 4),)))

    def test_properties_are_told_at_once(self):
        for (module, word), told in PROPERTIES.items():
            kind = getattr(import_module(f"truealarms.{module}"), word)
            thing = kind(3, (0, 7)) if kind is Glasses else kind(NARROW, RIVER)
            for name in told:
                self.assertEqual(plain(getattr(thing, name)), plain(getattr(thing, name)))


if __name__ == "__main__":
    unittest.main()
