"""The interface of the document: names, arguments, and the files in which they are defined."""

import unittest
from importlib import import_module
from inspect import isclass, isgeneratorfunction, signature

FUNCTIONS = {
    "wholes": ["is_sequence(thing)", "is_whole(thing, low=None, high=None)"],
    "lots": [
        "check_stands(v)", "all_stands(v)", "check_lot(v, lot)", "check_lots(v, lots)", "lot_of(stands)",
        "stands_of(lot)", "size_of(lot)", "is_within(one, other)", "lot_text(lot)"],
    "glasses": ["check_member(glasses, lot)"],
    "families": [
        "made_glasses(v, lots)", "needed_members(glasses)", "all_glasses(v)", "glasses_number(v)"],
    "rows": [
        "check_row(stands, row)", "check_rows(stands, rows)", "next_lot(row, lot)", "back_lot(row, lot)",
        "test_row(stands, lot)", "joined_row(one, other)", "behind_row(one, other)"],
    "programs": ["check_program(steps, program)", "steps_in(program)", "program_size(program)"],
    "trueends": [
        "true_end(steps, program, lot)", "true_run(steps, program, lot)", "meaning_row(steps, program)",
        "unlike_stand(steps, one, other)", "same_ends(steps, one, other)"],
    "ways": ["way_to(steps, program, lot, stand)", "way_fault(steps, program, lot, stand, way)"],
    "seenends": [
        "check_alike(one, other)", "seen_end(glasses, steps, program, lot)", "seen_table(glasses, steps, program)",
        "seen_gap(glasses, steps, program, lot)", "is_finer(one, other)"],
    "seenlogs": ["rounds_of(glasses, steps, program, lot)", "seen_run(glasses, steps, program, lot)"],
    "fences": [
        "find_fences(glasses, steps, program, lot)", "fences_fault(glasses, steps, program, lot, wish, fences)"],
    "sharpness": [
        "sharp_at(glasses, row, lot)", "blurring_lot(glasses, row, lot)", "unsharp_member(glasses, row)",
        "sharp_steps(glasses, steps)", "blurred_lots(glasses, row)", "greatest_blurred(glasses, row)",
        "least_sharp(glasses, row, lot)"],
    "cores": ["sharp_core(glasses, row)", "core_fault(glasses, row, core)"],
    "everystep": ["step_kinds()", "kinds_of_row(stands, row)", "every_step_sharp(glasses, kind)"],
    "exactness": [
        "exact_at(glasses, steps, program, lot)", "first_inexact(glasses, steps, program)",
        "exactness_word(glasses, steps, program, lot)", "all_exact(glasses, steps)"],
    "lines": [
        "rule_names()", "lines_fault(glasses, steps, lines)", "rule_counts(lines)",
        "wish_by_line(glasses, line, wish)", "grown_lines(glasses, steps, lines, start, end)",
        "joined_lines(glasses, steps, how, one, other)", "lean_lines(glasses, steps, lines)"],
    "findinglines": [
        "true_lines(steps, program, lot)", "find_lines(glasses, steps, program, lot)",
        "has_line(glasses, steps, program, lot, end)", "least_ends(glasses, steps, program, lot)",
        "least_starts(glasses, steps, program, lot)", "starts_with_line(glasses, steps, program)"],
    "alarms": [
        "alarm_of(glasses, steps, program, lot, wish)", "false_wishes(glasses, steps, program, lot)",
        "starts_exact(glasses, steps, program)"],
    "blurs": [
        "all_blurs(glasses, steps, program, lot)", "first_blur(glasses, steps, program, lot)",
        "start_within(glasses, steps, program, lot)"],
    "mends": [
        "mended_glasses(glasses, lot)", "single_mends(glasses, steps, program, lot)",
        "greatest_mends(glasses, steps, program, lot)", "fewest_added(glasses, steps, program, lot)",
        "mended_run(glasses, steps, program, lot)"],
    "fusing": ["fused_steps(steps, one, other, new, manner='behind')", "split_by(steps, program, one, other)"],
    "rewritings": [
        "rewriting_names()", "verdict_of(name)", "letters_of(name)", "rewriting_pair(name, programs)",
        "spots_of(program)", "part_at(program, spot)", "moves_in(program, *, names=None)",
        "rewritten_at(program, spot, name)", "rewritten_by(program, moves)"],
    "counters": ["counter_of(name)", "ungathered_pair(glasses)", "counter_in(glasses)", "fusing_counter(glasses)"],
    "sharpening": ["sharpest_found(glasses, steps, program, lot, names, most)"],
    "besides": ["both_glasses(one, other)", "common_glasses(one, other)"],
    "refining": [
        "sharp_refinement(glasses, steps)", "refined_fault(glasses, steps, refined)", "sharp_part(glasses, steps)"],
    "parting": [
        "check_cells(v, cells)", "cells_of(glasses)", "glasses_of_cells(v, cells)", "even_glasses(glasses)",
        "even_refinement(glasses, steps)", "cells_refined(cells, steps)", "parted_fault(cells, steps, parted)"],
    "names": [
        "project_lot(pair, lot, which)", "box_of(pair, one, other)", "boxed_lot(pair, lot)", "is_box(pair, lot)",
        "side_row(pair, which, row)", "cross_row(pair, which, table)"],
    "apartness": [
        "apart_glasses(one, other)", "related_lots(pair, glasses)", "finest_apart(pair, glasses)",
        "side_sharp(one, other, which, row)"],
    "shadows": ["side_steps(pair, one, other)", "shadow_program(steps, program, kept)"],
    "factsback": [
        "check_facts(stands, facts)", "is_fitting(glasses, facts)", "misfit_of(stands, facts)",
        "finest_glasses(stands, facts)", "coarsest_glasses(stands, facts)", "count_fitting(stands, facts)",
        "next_ask(stands, facts)", "shows_surely(stands, facts, lot)", "telling_facts(glasses)"],
    "sharpfacts": ["sharp_fitting(steps, facts)"],
    "edits": [
        "apply_edits(glasses, steps, edits)", "find_mends(glasses, steps, pool, demands)",
        "mends_fault(glasses, steps, pool, demands, picks)"],
    "lottext": ["glasses_text(glasses)", "read_glasses(text)"],
    "programtext": ["program_text(program)", "read_program(text)"],
}

GENERATORS = ["all_glasses", "true_run", "seen_run", "all_blurs", "spots_of", "moves_in"]

CLASSES = {
    "glasses": {
        "Glasses": ["__init__(self, stands, members)", "rounded(self, lot)", "__contains__(self, thing)",
                    "__len__(self)", "__eq__(self, other)"]},
    "steps": {
        "Steps": ["__init__(self, stands, entries)", "row_of(self, name)", "with_row(self, name, row)",
                  "__contains__(self, name)", "__eq__(self, other)"]},
    "trueends": {"Met": ["__init__(self, path, name, lot)"]},
    "ways": {"Way": ["__init__(self, start, names, stands)"]},
    "seenlogs": {"Seen": ["__init__(self, path, name, lot, after)"]},
    "sharpness": {"Unsharp": ["__init__(self, member, back)"]},
    "cores": {"Core": ["__init__(self, row, cuts)"]},
    "everystep": {"UnsharpRow": ["__init__(self, row, member, back)"]},
    "blurs": {"Blur": ["__init__(self, path, name, lot, true_next, seen_next, mend)"]},
    "mends": {"MendedRun": ["__init__(self, glasses, blurs)"]},
    "exactness": {"Misled": ["__init__(self, name, lot, wish)"]},
    "counters": {"Counter": ["__init__(self, glasses, steps, programs, start)"]},
    "sharpening": {"Sharpest": ["__init__(self, moves, program, seen)"]},
    "refining": {"Refined": ["__init__(self, glasses, reasons)"], "SharpPart": ["__init__(self, glasses, lost)"]},
    "parting": {"Parted": ["__init__(self, cells, reasons)"]},
    "names": {"Pair": ["__init__(self, first, second)", "__eq__(self, other)"]},
    "factsback": {"Misfit": ["__init__(self, place, other)"]},
    "sharpfacts": {"Between": ["__init__(self, coarsest, finest)"]},
    "bench": {
        "Bench": ["__init__(self, glasses, steps)", "change(self, edit)", "take_back(self)",
                  "verdict(self, program, lot, wish)", "trial(self, edits, program, lot, wish)"]},
}

PROPERTIES = {("glasses", "Glasses"): ["every", "least"],
              ("bench", "Bench"): ["present_glasses", "present_steps", "log"]}


class Interface(unittest.TestCase):
    def test_functions_stand_in_their_files(self):
        for name, told in FUNCTIONS.items():
            module = import_module(f"truealarms.{name}")
            for line in told:
                function = getattr(module, line.partition("(")[0])
                self.assertEqual(function.__name__ + str(signature(function)), line)
                self.assertEqual(function.__module__, f"truealarms.{name}")

    def test_generators(self):
        for name, told in FUNCTIONS.items():
            module = import_module(f"truealarms.{name}")
            for line in told:
                word = line.partition("(")[0]
                self.assertIs(isgeneratorfunction(getattr(module, word)), word in GENERATORS, word)

    def test_classes_and_their_own_methods(self):
        for name, told in CLASSES.items():
            module = import_module(f"truealarms.{name}")
            for word, methods in told.items():
                kind = getattr(module, word)
                self.assertTrue(isclass(kind))
                self.assertEqual(kind.__module__, f"truealarms.{name}")
                for line in methods:
                    method = vars(kind)[line.partition("(")[0]]
                    self.assertEqual(method.__name__ + str(signature(method)), line)

    def test_properties(self):
        for (name, word), told in PROPERTIES.items():
            kind = getattr(import_module(f"truealarms.{name}"), word)
            for attribute in told:
                self.assertIsInstance(vars(kind)[attribute], property)


if __name__ == "__main__":
    unittest.main()
