"""Lines: what a program truly reaches from a start and is not seen to pass, each by a rule.

A line is a tuple (start, program, end, how, uppers); its uppers are the numbers of earlier lines.
"""

from truealarms.errors import BadLines, NotLet
from truealarms.glasses import check_member
from truealarms.lots import check_lot, is_within
from truealarms.programs import is_program
from truealarms.rows import next_lot
from truealarms.seenends import check_alike
from truealarms.sharpness import sharp_at
from truealarms.wholes import is_sequence, is_whole

RULES = ("step", "nothing", "grow", "behind", "either", "more", "closed")
# Rules that make programs of a shape with another name than their own; "grow" makes programs of any shape.
SHAPES_MADE = {"more": "again", "closed": "again"}
JOINING_RULES = ("behind", "either", "more")


def rule_names():
    """The words of the seven rules, in their order."""
    return RULES


def _asked_programs(how, program):
    """The programs that a rule asks for in its uppers, in their order."""
    if how == "grow":
        return (program,)
    if how == "more":
        return (program[1], program)
    return () if how == "step" else program[1:]


def _are_uppers(lines, number, asked):
    """Whether the uppers of a line are earlier lines of just the programs asked for."""
    uppers = lines[number][4]
    if not isinstance(uppers, tuple) or len(uppers) != len(asked):
        return False
    if not all([is_whole(upper, 0, number - 1) for upper in uppers]):
        return False
    return all([lines[upper][1] == program for upper, program in zip(uppers, asked)])


def _due_start(how, first):
    """The start that a rule with two uppers asks for in the second one."""
    if how == "behind":
        return first[2]
    return first[0] if how == "either" else first[0] | first[2]


def _made_end(how, first, second):
    """The end that a rule with two uppers makes."""
    return first[2] | second[2] if how == "either" else second[2]


def _have_due_lots(steps, line, above):
    """Whether the lots of a line and of its uppers are those of its rule."""
    start, program, end, how, _ = line
    if how == "grow":
        return True
    if how == "step":
        return end == next_lot(steps.row_of(program[1]), start)
    if how == "nothing":
        return end == start
    first = above[0]
    if first[0] != start:
        return False
    if how == "closed":
        return end == start | first[2]
    second = above[1]
    return second[0] == _due_start(how, first) and end == _made_end(how, first, second)


def _is_start_let(glasses, upper, start):
    """Whether a line may grow to a start."""
    return is_within(upper[0], start) and is_within(start, glasses.rounded(upper[0]))


def _is_end_let(glasses, upper, end):
    """Whether a line may grow to an end."""
    return is_within(end, upper[2]) and is_within(upper[2], glasses.rounded(end))


def _keeps_rule(glasses, steps, line, above):
    """Whether what a rule asks of its lots, beyond their being the due ones, holds."""
    start, program, end, how, _ = line
    if how == "step":
        return sharp_at(glasses, steps.row_of(program[1]), start)
    if how == "grow":
        return _is_start_let(glasses, above[0], start) and _is_end_let(glasses, above[0], end)
    return how != "closed" or is_within(above[0][2], glasses.rounded(start))


def _is_line(glasses, thing):
    if not isinstance(thing, tuple) or len(thing) != 5:
        return False
    return is_whole(thing[0], 0, glasses.every) and is_whole(thing[2], 0, glasses.every)


def _line_fault(glasses, steps, lines, number):
    """The word of the first fault of a line, or None; the earlier lines have none."""
    line = lines[number]
    if not _is_line(glasses, line):
        return "line"
    program, how = line[1], line[3]
    if not is_program(steps, program):
        return "program"
    if how not in RULES or how != "grow" and program[0] != SHAPES_MADE.get(how, how):
        return "how"
    if not _are_uppers(lines, number, _asked_programs(how, program)):
        return "uppers"
    above = [lines[upper] for upper in line[4]]
    if not _have_due_lots(steps, line, above):
        return "lot"
    if _keeps_rule(glasses, steps, line, above):
        return None
    return "sharp" if how == "step" else how


def lines_fault(glasses, steps, lines):
    """The first line that does not follow by its rule, as its number and a word, or None."""
    check_alike(glasses, steps)
    if not is_sequence(lines) or len(lines) == 0:
        return (0, "many")
    for number in range(len(lines)):
        word = _line_fault(glasses, steps, lines, number)
        if word is not None:
            return (number, word)
    return None


def _check_lines(glasses, steps, lines):
    fault = lines_fault(glasses, steps, lines)
    if fault is not None:
        raise BadLines(fault[0], fault[1])


def rule_counts(lines):
    """How many lines are by each rule, in the order of the rules."""
    return tuple([len([line for line in lines if line[3] == how]) for how in RULES])


def wish_by_line(glasses, line, wish):
    """Whether the end of a line lies within a wish."""
    check_member(glasses, wish)
    return is_within(line[2], wish)


def grown_lines(glasses, steps, lines, start, end):
    """The lines, and behind them the last one grown to a start and an end."""
    _check_lines(glasses, steps, lines)
    check_lot(glasses.stands, start)
    check_lot(glasses.stands, end)
    upper = lines[-1]
    if not _is_start_let(glasses, upper, start):
        raise NotLet("start")
    if not _is_end_let(glasses, upper, end):
        raise NotLet("end")
    return (*lines, (start, upper[1], end, "grow", (len(lines) - 1,)))


def _joined_program(how, one, other):
    return other if how == "more" else (how, one, other)


def _with_uppers(line, uppers):
    return (line[0], line[1], line[2], line[3], tuple(uppers))


def joined_lines(glasses, steps, how, one, other):
    """The lines of both, and behind them the one that a rule makes of their last lines."""
    check_alike(glasses, steps)
    if how not in JOINING_RULES:
        raise NotLet("how")
    _check_lines(glasses, steps, one)
    _check_lines(glasses, steps, other)
    first, second = one[-1], other[-1]
    program = _joined_program(how, first[1], second[1])
    if how == "more" and program != ("again", first[1]) or not is_program(steps, program):
        raise NotLet("program")
    if second[0] != _due_start(how, first):
        raise NotLet("lot")
    many = len(one)
    moved = [_with_uppers(line, [upper + many for upper in line[4]]) for line in other]
    uppers = (many - 1, many + len(other) - 1)
    return (*one, *moved, (first[0], program, _made_end(how, first, second), how, uppers))


def _needed_numbers(lines):
    """The numbers of the last line and of the uppers of each needed line, ascending."""
    needed = {len(lines) - 1: True}
    # Uppers have lower numbers, so each line comes up behind all that may need it.
    for number in range(len(lines) - 1, -1, -1):
        if number in needed:
            for upper in lines[number][4]:
                needed[upper] = True
    return sorted(needed)


def lean_lines(glasses, steps, lines):
    """The lines that the last one needs, in their order, with their uppers renumbered."""
    _check_lines(glasses, steps, lines)
    numbers = _needed_numbers(lines)
    places = {number: place for place, number in enumerate(numbers)}
    return tuple([_with_uppers(lines[k], [places[upper] for upper in lines[k][4]]) for k in numbers])
