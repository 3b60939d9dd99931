"""[5.1] to [5.5]: lines, their faults, and new lines out of given ones."""

import unittest

from helpers import NO_SEQUENCES, NO_WHOLES, error_of, every_glasses, nested, some_steps
from truealarms.errors import BadLines, BadLot, NoMember, NotLet, UnlikeStands
from truealarms.families import made_glasses
from truealarms.findinglines import find_lines
from truealarms.glasses import Glasses
from truealarms.lines import (
    grown_lines, joined_lines, lean_lines, lines_fault, rule_counts, rule_names, wish_by_line)
from truealarms.seenends import seen_end
from truealarms.steps import Steps
from truealarms.trueends import true_end

F = ("step", "f")
G = ("step", "g")
STAY = ("nothing",)
MORE = ("again", F)
NARROW = Glasses(3, (0, 1, 4, 7))
WIDE = Glasses(3, (0, 1, 4, 6, 7))
RIVER = Steps(3, [("f", (2, 4, 4)), ("g", (1, 1, 1))])
# One line by each rule; their numbers are 0 to 8.
ALL_RULES = (
    (1, F, 2, "step", ()),
    (2, F, 4, "step", ()),
    (1, ("behind", F, F), 4, "behind", (0, 1)),
    (5, STAY, 5, "nothing", ()),
    (1, ("either", F, F), 2, "either", (0, 0)),
    (7, F, 6, "step", ()),
    (7, MORE, 7, "closed", (5,)),
    (3, F, 6, "step", ()),
    (3, MORE, 7, "more", (7, 6)),
    (3, MORE, 6, "grow", (8,)),
)


def fault_of(lines, glasses=WIDE):
    return lines_fault(glasses, RIVER, lines)


def last_word(line, glasses=WIDE, before=ALL_RULES):
    """The word for a line behind lines without a fault."""
    fault = fault_of(before + (line,), glasses)
    if fault is None:
        return None
    assert fault[0] == len(before), fault
    return fault[1]


class Judging(unittest.TestCase):
    def test_lines_by_all_rules(self):
        # 3 is rounded to 7 by these glasses, and 6 is a member; so the last line may not grow to 6.
        self.assertEqual(fault_of(ALL_RULES), (9, "grow"))
        self.assertIsNone(fault_of(ALL_RULES[:9]))
        self.assertIsNone(fault_of(list(ALL_RULES[:9])))

    def test_the_example(self):
        self.assertIsNone(fault_of((ALL_RULES[0],), NARROW))
        self.assertEqual(fault_of(ALL_RULES[:3], NARROW), (1, "sharp"))
        self.assertIsNone(fault_of(ALL_RULES[:3], WIDE))

    def test_many(self):
        for lines in NO_SEQUENCES + ((), []):
            self.assertEqual(fault_of(lines), (0, "many"), lines)

    def test_line(self):
        for line in NO_SEQUENCES + ((), list(ALL_RULES[0]), ALL_RULES[0][:4], ALL_RULES[0] + ((),), (1, 2)):
            self.assertEqual(fault_of((line,)), (0, "line"), line)
            self.assertEqual(fault_of([ALL_RULES[0], line, None]), (1, "line"), line)
        for lot in NO_WHOLES + (8,):
            self.assertEqual(fault_of([(lot, "no program", 2, "step", ())]), (0, "line"), lot)
            self.assertEqual(fault_of([(1, "no program", lot, "step", ())]), (0, "line"), lot)

    def test_program(self):
        deep = nested(lambda inner: ("behind", inner, STAY), 12)
        for program in (None, ["step", "f"], ("step", "h"), "f", (), deep, nested(lambda r: ("again", r), 5)):
            self.assertEqual(fault_of([(1, program, 2, "no rule", None)]), (0, "program"), program)

    def test_how(self):
        for how in NO_SEQUENCES + ("Step", "", "again", ["step"], ("step",), {}):
            self.assertEqual(fault_of([(1, F, 2, how, "no uppers")]), (0, "how"), how)
        shapes = {"step": F, "nothing": STAY, "behind": ("behind", F, F), "either": ("either", F, F), "again": MORE}
        made = {"more": "again", "closed": "again"}
        for how in rule_names():
            for shape, program in shapes.items():
                word = last_word((1, program, 2, how, "no uppers"), before=ALL_RULES[:9])
                self.assertEqual(word, "uppers" if how == "grow" or made.get(how, how) == shape else "how")

    def test_uppers_of_a_wrong_form(self):
        told = ALL_RULES[:9]
        good = [line for line in told if line[4]] + [(1, F, 2, "grow", (0,))]
        self.assertIsNone(last_word(good[-1], before=told))
        for line in good:
            uppers = line[4]
            wrong = [list(uppers), (), None, 0, uppers + (0,), uppers[:-1], "0" * len(uppers)]
            wrong += [(upper,) * len(uppers) for upper in NO_WHOLES + (9, 10, -1)]
            for other in wrong:
                self.assertEqual(last_word(line[:4] + (other,), before=told), "uppers", (line, other))
        self.assertEqual(last_word((1, F, 2, "step", (0,)), before=told), "uppers")
        self.assertEqual(last_word((1, STAY, 1, "nothing", (0,)), before=told), "uppers")
        self.assertEqual(last_word((1, F, 2, "step", []), before=told), "uppers")

    def test_true_is_no_number_of_an_upper(self):
        told = ALL_RULES[:2]
        self.assertIsNone(last_word((2, F, 4, "grow", (1,)), before=told))
        self.assertEqual(last_word((2, F, 4, "grow", (True,)), before=told), "uppers")
        self.assertEqual(last_word((1, F, 2, "grow", (False,)), before=told), "uppers")

    def test_a_line_is_no_upper_of_itself(self):
        self.assertEqual(fault_of([(1, F, 2, "grow", (0,))]), (0, "uppers"))
        self.assertEqual(fault_of([ALL_RULES[0], (1, F, 2, "grow", (1,))]), (1, "uppers"))
        self.assertEqual(fault_of([(1, F, 2, "grow", (1,)), ALL_RULES[0]]), (0, "uppers"))

    def test_uppers_of_wrong_programs(self):
        told = ALL_RULES[:9]
        for line in (
                (5, F, 5, "grow", (3,)), (1, ("behind", F, STAY), 4, "behind", (0, 1)),
                (1, ("behind", G, F), 4, "behind", (0, 1)), (1, ("either", F, G), 2, "either", (0, 0)),
                (1, ("either", G, F), 2, "either", (0, 0)), (3, MORE, 7, "more", (7, 5)),
                (3, MORE, 7, "more", (6, 6)), (3, ("again", G), 7, "more", (7, 6)), (7, MORE, 7, "closed", (6,)),
                (7, ("again", STAY), 7, "closed", (5,))):
            self.assertEqual(last_word(line, before=told), "uppers", line)

    def test_lots_that_are_not_those_of_the_rule(self):
        told = ALL_RULES[:9] + ((4, F, 4, "step", ()), (0, F, 0, "step", ()))
        for line in (
                (1, F, 3, "step", ()), (3, F, 2, "step", ()), (1, STAY, 2, "nothing", ()),
                (2, ("behind", F, F), 4, "behind", (0, 1)), (1, ("behind", F, F), 6, "behind", (0, 1)),
                (1, ("behind", F, F), 4, "behind", (0, 9)), (2, ("either", F, F), 2, "either", (0, 0)),
                (1, ("either", F, F), 6, "either", (0, 1)), (1, ("either", F, F), 3, "either", (0, 0)),
                (2, MORE, 7, "more", (7, 6)), (3, MORE, 6, "more", (7, 6)), (2, MORE, 7, "more", (1, 6)),
                (1, MORE, 7, "more", (7, 6)), (6, MORE, 7, "closed", (5,)), (7, MORE, 6, "closed", (5,)),
                (0, MORE, 4, "closed", (9,)), (4, MORE, 0, "closed", (9,))):
            self.assertEqual(last_word(line, before=told), "lot", line)

    def test_sharp(self):
        self.assertEqual(fault_of([(2, F, 4, "step", ())], NARROW), (0, "sharp"))
        self.assertEqual(fault_of([(2, F, 2, "step", ())], NARROW), (0, "lot"))
        self.assertIsNone(fault_of([(3, F, 6, "step", ())], NARROW))

    def test_grow(self):
        # The start 3 is rounded to 7 and the end 6 to 7.
        told = ((3, F, 6, "step", ()),)
        for start in range(8):
            for end in range(8):
                due = start in (3, 7) and end in (2, 6)
                word = last_word((start, F, end, "grow", (0,)), NARROW, told)
                self.assertEqual(word, None if due else "grow", (start, end))
        told = ((1, F, 2, "step", ()),)
        self.assertEqual(last_word((1, F, 2, "grow", (0,)), NARROW, told), None)
        self.assertEqual(last_word((3, F, 2, "grow", (0,)), NARROW, told), "grow")
        self.assertEqual(last_word((1, F, 6, "grow", (0,)), NARROW, told), "grow")

    def test_closed(self):
        steps = Steps(3, [("f", (2, 4, 4))])
        told = ((1, F, 2, "step", ()),)
        self.assertEqual(lines_fault(NARROW, steps, told + ((1, MORE, 3, "closed", (0,)),)), (1, "closed"))
        # Here the end 4 lies within what 2 is rounded to.
        low = Glasses(3, (0, 1, 6, 7))
        told = ((2, F, 4, "step", ()),)
        self.assertIsNone(lines_fault(low, steps, told + ((2, MORE, 6, "closed", (0,)),)))
        self.assertEqual(lines_fault(low, steps, told + ((2, MORE, 2, "closed", (0,)),)), (1, "lot"))

    def test_all_words_of_a_line_before_the_next_one(self):
        self.assertEqual(fault_of([(2, F, 4, "step", ()), None], NARROW), (0, "sharp"))
        self.assertEqual(fault_of([ALL_RULES[0], (1, MORE, 3, "closed", (0,)), None], NARROW), (1, "closed"))
        self.assertEqual(fault_of([ALL_RULES[0], (1, F, 7, "grow", (0,)), "no line"], NARROW), (1, "grow"))

    def test_unlike_stands_come_first(self):
        for glasses, steps in ((made_glasses(2, []), RIVER), (NARROW, Steps(2, []))):
            self.assertEqual(error_of(lines_fault, glasses, steps, None), (UnlikeStands, ()))
            self.assertEqual(error_of(grown_lines, glasses, steps, None, None, None), (UnlikeStands, ()))
            self.assertEqual(error_of(joined_lines, glasses, steps, None, None, None), (UnlikeStands, ()))
            self.assertEqual(error_of(lean_lines, glasses, steps, None), (UnlikeStands, ()))


class Telling(unittest.TestCase):
    def test_rules(self):
        self.assertEqual(rule_names(), ("step", "nothing", "grow", "behind", "either", "more", "closed"))

    def test_counts(self):
        self.assertEqual(rule_counts(ALL_RULES[:9]), (4, 1, 0, 1, 1, 1, 1))
        self.assertEqual(rule_counts(list(ALL_RULES[:1])), (1, 0, 0, 0, 0, 0, 0))
        grown = ALL_RULES[:1] + ((1, F, 2, "grow", (0,)),)
        self.assertEqual(rule_counts(grown), (1, 0, 1, 0, 0, 0, 0))

    def test_wishes(self):
        for line in ALL_RULES:
            for wish in WIDE.members:
                self.assertIs(wish_by_line(WIDE, line, wish), line[2] & ~wish == 0)

    def test_wrong_wishes(self):
        for wish in NO_WHOLES + (8,):
            self.assertEqual(error_of(wish_by_line, WIDE, ALL_RULES[0], wish), (BadLot, ()), wish)
        for wish in (2, 3, 5):
            self.assertEqual(error_of(wish_by_line, WIDE, ALL_RULES[0], wish), (NoMember, ()), wish)

    def test_what_lines_show(self):
        for glasses in every_glasses(3)[::5]:
            for steps in some_steps(3)[::3]:
                for program in (F, ("behind", F, G), MORE, ("again", ("either", F, G))):
                    for lot in range(8):
                        lines = find_lines(glasses, steps, program, lot) or ()
                        for start, inner, end, _, _ in lines:
                            seen = seen_end(glasses, steps, inner, start)
                            self.assertEqual(end & ~true_end(steps, inner, start), 0)
                            self.assertEqual(glasses.rounded(end), seen)


class Growing(unittest.TestCase):
    def test_one_line_more(self):
        lines = [(3, F, 6, "step", ())]
        grown = grown_lines(NARROW, RIVER, lines, 7, 2)
        self.assertEqual(grown, ((3, F, 6, "step", ()), (7, F, 2, "grow", (0,))))
        self.assertEqual(type(grown), tuple)
        self.assertEqual(lines, [(3, F, 6, "step", ())])
        twice = grown_lines(NARROW, RIVER, grown, 7, 2)
        self.assertEqual(twice, grown + ((7, F, 2, "grow", (1,)),))

    def test_all_lots(self):
        for glasses in every_glasses(3)[::4]:
            for steps in some_steps(3)[::4]:
                lines = find_lines(glasses, steps, ("behind", F, G), 2)
                if lines is not None:
                    for start in range(8):
                        for end in range(8):
                            self.check_grown(glasses, steps, lines, start, end)

    def check_grown(self, glasses, steps, lines, start, end):
        first, _, last, _, _ = lines[-1]
        if first & ~start or start & ~glasses.rounded(first):
            due = (NotLet, ("start",))
        elif end & ~last or last & ~glasses.rounded(end):
            due = (NotLet, ("end",))
        else:
            due = None
            grown = grown_lines(glasses, steps, lines, start, end)
            self.assertEqual(grown, lines + ((start, lines[-1][1], end, "grow", (len(lines) - 1,)),))
            self.assertIsNone(lines_fault(glasses, steps, grown))
        self.assertEqual(error_of(grown_lines, glasses, steps, lines, start, end), due)

    def test_errors_in_order(self):
        lines = ((1, F, 2, "step", ()),)
        self.assertEqual(error_of(grown_lines, NARROW, RIVER, (), None, None), (BadLines, (0, "many")))
        wrong = lines + ((2, F, 4, "step", ()),)
        self.assertEqual(error_of(grown_lines, NARROW, RIVER, wrong, None, None), (BadLines, (1, "sharp")))
        for lot in NO_WHOLES + (8,):
            self.assertEqual(error_of(grown_lines, NARROW, RIVER, lines, lot, 2), (BadLot, ()), lot)
            self.assertEqual(error_of(grown_lines, NARROW, RIVER, lines, 6, lot), (BadLot, ()), lot)
        self.assertEqual(error_of(grown_lines, NARROW, RIVER, lines, 6, 5), (NotLet, ("start",)))
        self.assertEqual(error_of(grown_lines, NARROW, RIVER, lines, 1, 5), (NotLet, ("end",)))
        self.assertEqual(error_of(grown_lines, NARROW, RIVER, lines, 1, 0), (NotLet, ("end",)))


class Joining(unittest.TestCase):
    def test_behind(self):
        one, other = [(1, F, 2, "step", ())], ((2, F, 4, "step", ()), (2, F, 4, "grow", (0,)))
        joined = joined_lines(WIDE, RIVER, "behind", one, other)
        self.assertEqual(joined, (
            (1, F, 2, "step", ()), (2, F, 4, "step", ()), (2, F, 4, "grow", (1,)),
            (1, ("behind", F, F), 4, "behind", (0, 2))))
        self.assertEqual((len(one), other[1][4]), (1, (0,)))

    def test_either(self):
        one, other = ((1, F, 2, "step", ()),), [(1, STAY, 1, "nothing", ())]
        self.assertEqual(joined_lines(WIDE, RIVER, "either", one, other), (
            (1, F, 2, "step", ()), (1, STAY, 1, "nothing", ()), (1, ("either", F, STAY), 3, "either", (0, 1))))

    def test_more(self):
        one = ((3, F, 6, "step", ()),)
        other = ((7, F, 6, "step", ()), (7, MORE, 7, "closed", (0,)))
        joined = joined_lines(WIDE, RIVER, "more", one, other)
        self.assertEqual(joined, (
            (3, F, 6, "step", ()), (7, F, 6, "step", ()), (7, MORE, 7, "closed", (1,)),
            (3, MORE, 7, "more", (0, 2))))

    def test_no_fault_is_found_in_them(self):
        for glasses in every_glasses(3)[::6]:
            for steps in some_steps(3)[::4]:
                self.check_all_lots(glasses, steps)

    def check_all_lots(self, glasses, steps):
        for lot in range(8):
            one = find_lines(glasses, steps, ("either", F, G), lot)
            for start in range(8):
                for how, program in (("behind", ("behind", G, F)), ("either", F), ("more", ("again", ("either", F, G)))):
                    other = find_lines(glasses, steps, program, start)
                    if one is not None and other is not None:
                        self.check_joined(glasses, steps, how, one, other)

    def check_joined(self, glasses, steps, how, one, other):
        first, second = one[-1], other[-1]
        due = {"behind": first[2], "either": first[0], "more": first[0] | first[2]}[how]
        if second[0] != due:
            self.assertEqual(error_of(joined_lines, glasses, steps, how, one, other), (NotLet, ("lot",)))
            return
        joined = joined_lines(glasses, steps, how, one, other)
        self.assertIsNone(lines_fault(glasses, steps, joined))
        self.assertEqual(joined[:len(one)], one)
        self.assertEqual([line[:4] for line in joined[len(one):-1]], [line[:4] for line in other])
        self.assertEqual((joined[-1][0], joined[-1][3]), (first[0], how))
        self.assertEqual(joined[-1][2], true_end(steps, joined[-1][1], first[0]))

    def test_errors_in_order(self):
        one, other = ((1, F, 2, "step", ()),), ((4, F, 4, "step", ()),)
        for how in NO_SEQUENCES + ("step", "nothing", "grow", "closed", "again", ["behind"]):
            self.assertEqual(error_of(joined_lines, NARROW, RIVER, how, None, None), (NotLet, ("how",)), how)
        wrong = ((2, F, 4, "step", ()),)
        for how in ("behind", "either", "more"):
            self.assertEqual(error_of(joined_lines, NARROW, RIVER, how, wrong, None), (BadLines, (0, "sharp")))
            self.assertEqual(error_of(joined_lines, NARROW, RIVER, how, one, None), (BadLines, (0, "many")))
            self.assertEqual(error_of(joined_lines, NARROW, RIVER, how, one, one + wrong), (BadLines, (1, "sharp")))
        self.assertEqual(error_of(joined_lines, NARROW, RIVER, "behind", one, other), (NotLet, ("lot",)))
        self.assertEqual(error_of(joined_lines, NARROW, RIVER, "either", one, other), (NotLet, ("lot",)))
        self.assertEqual(error_of(joined_lines, NARROW, RIVER, "more", one, other), (NotLet, ("program",)))
        closed = ((7, F, 6, "step", ()), (7, MORE, 7, "closed", (0,)))
        self.assertEqual(error_of(joined_lines, NARROW, RIVER, "more", one, closed), (NotLet, ("lot",)))
        stays = ((1, STAY, 1, "nothing", ()),)
        self.assertEqual(error_of(joined_lines, NARROW, RIVER, "more", stays, closed), (NotLet, ("program",)))

    def test_programs_that_are_refused(self):
        deep = nested(lambda inner: ("behind", inner, STAY), 11, STAY)
        one, other = find_lines(NARROW, RIVER, deep, 4), ((1, STAY, 1, "nothing", ()),)
        for how in ("behind", "either"):
            self.assertEqual(error_of(joined_lines, NARROW, RIVER, how, one, other), (NotLet, ("program",)))
            self.assertEqual(error_of(joined_lines, NARROW, RIVER, how, other, one), (NotLet, ("program",)))
        long = nested(lambda inner: ("either", inner, inner), 4, STAY)
        one = find_lines(NARROW, RIVER, long, 4)
        self.assertEqual(error_of(joined_lines, NARROW, RIVER, "behind", one, one), (NotLet, ("program",)))


class Leaning(unittest.TestCase):
    def test_only_needed_lines(self):
        lines = list(ALL_RULES[:9])
        self.assertEqual(lean_lines(WIDE, RIVER, lines), (
            (7, F, 6, "step", ()), (7, MORE, 7, "closed", (0,)), (3, F, 6, "step", ()), (3, MORE, 7, "more", (2, 1))))
        self.assertEqual(lean_lines(WIDE, RIVER, lines[:5]), (
            (1, F, 2, "step", ()), (1, ("either", F, F), 2, "either", (0, 0))))
        self.assertEqual(lean_lines(WIDE, RIVER, lines[:1]), ALL_RULES[:1])
        self.assertEqual(lines, list(ALL_RULES[:9]))

    def test_a_chain_and_a_line_twice(self):
        chain = ((7, F, 6, "step", ()),) + tuple([(7, F, 2, "grow", (k,)) for k in range(5)])
        self.assertEqual(lean_lines(NARROW, RIVER, chain), chain)
        moved = (chain[0], chain[0]) + tuple([(7, F, 2, "grow", (k + 1,)) for k in range(5)])
        self.assertEqual(lean_lines(NARROW, RIVER, moved), chain)

    def test_needed_lines_of_each_prefix(self):
        for many in range(1, 10):
            lean = lean_lines(WIDE, RIVER, ALL_RULES[:many])
            self.assertIsNone(lines_fault(WIDE, RIVER, lean))
            self.assertEqual(lean[-1][:4], ALL_RULES[many - 1][:4])
            needed = {upper for line in lean for upper in line[4]}
            self.assertEqual(needed, set(range(len(lean) - 1)))
            self.assertEqual(lean_lines(WIDE, RIVER, lean), lean)

    def test_wrong_lines(self):
        self.assertEqual(error_of(lean_lines, WIDE, RIVER, []), (BadLines, (0, "many")))
        self.assertEqual(error_of(lean_lines, WIDE, RIVER, ALL_RULES), (BadLines, (9, "grow")))
        self.assertEqual(error_of(lean_lines, NARROW, RIVER, ALL_RULES), (BadLines, (1, "sharp")))


if __name__ == "__main__":
    unittest.main()
