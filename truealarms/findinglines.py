"""Finding lines: for a program from a start, by going along its true run."""

from truealarms.lots import check_lot, is_within, least_of
from truealarms.programs import check_program
from truealarms.rows import next_lot
from truealarms.seenends import check_alike, check_start
from truealarms.sharpness import sharp_at
from truealarms.trueends import true_end


class FoundLines:
    """The lines found so far, and their numbers by the place of the program and the start."""

    def __init__(self):
        self.lines = []
        self.numbers = {}


def _again_line(steps, program, spot, lot, found):
    first = _number_of(steps, program[1], spot + (0,), lot, found)
    end = found.lines[first][2]
    if is_within(end, lot):
        return (lot, program, lot, "closed", (first,))
    second = _number_of(steps, program, spot, lot | end, found)
    return (lot, program, found.lines[second][2], "more", (first, second))


def _new_line(steps, program, spot, lot, found):
    """The line for a program from a lot; those that it needs are put behind those found so far."""
    shape = program[0]
    if shape == "step":
        return (lot, program, next_lot(steps.row_of(program[1]), lot), "step", ())
    if shape == "nothing":
        return (lot, program, lot, "nothing", ())
    if shape == "again":
        return _again_line(steps, program, spot, lot, found)
    first = _number_of(steps, program[1], spot + (0,), lot, found)
    end = found.lines[first][2]
    second = _number_of(steps, program[2], spot + (1,), end if shape == "behind" else lot, found)
    last = found.lines[second][2]
    return (lot, program, last if shape == "behind" else end | last, shape, (first, second))


def _number_of(steps, program, spot, lot, found):
    """The number of the line for the program at a spot from a lot; it is found if it is not yet there."""
    # Rounds of agains come to the same lots again and again, so each line is put in just once.
    if (spot, lot) not in found.numbers:
        line = _new_line(steps, program, spot, lot, found)
        found.numbers[(spot, lot)] = len(found.lines)
        found.lines.append(line)
    return found.numbers[(spot, lot)]


def _run_lines(steps, program, lot):
    """Lines along the true run, the steps in its order; nothing is checked."""
    found = FoundLines()
    _number_of(steps, program, (), lot, found)
    return tuple(found.lines)


def true_lines(steps, program, lot):
    """Lines that need no glasses: what the program truly reaches from the lot."""
    check_program(steps, program)
    check_lot(steps.stands, lot)
    return _run_lines(steps, program, lot)


def _are_sharp(glasses, steps, lines):
    """Whether each step is sharp at the start of its line."""
    taken = [(steps.row_of(line[1][1]), line[0]) for line in lines if line[3] == "step"]
    return all([sharp_at(glasses, row, lot) for row, lot in taken])


def _is_sharp_run(glasses, steps, program, lot):
    return _are_sharp(glasses, steps, _run_lines(steps, program, lot))


def find_lines(glasses, steps, program, lot):
    """Lines for a program from a lot up to its true end, or None if there are none."""
    check_start(glasses, steps, program, lot)
    lines = _run_lines(steps, program, lot)
    return lines if _are_sharp(glasses, steps, lines) else None


def _ends_with_line(glasses, steps, program, lot):
    """All ends up to which there is a line from a lot, ascending; nothing is checked."""
    if not _is_sharp_run(glasses, steps, program, lot):
        return []
    end = true_end(steps, program, lot)
    return [other for other in range(end + 1) if is_within(other, end) and is_within(end, glasses.rounded(other))]


def has_line(glasses, steps, program, lot, end):
    """Whether there is a line for a program from a lot up to an end."""
    check_start(glasses, steps, program, lot)
    check_lot(glasses.stands, end)
    return end in _ends_with_line(glasses, steps, program, lot)


def least_ends(glasses, steps, program, lot):
    """The least ends up to which there is a line from a lot, ascending."""
    check_start(glasses, steps, program, lot)
    return least_of(_ends_with_line(glasses, steps, program, lot))


def least_starts(glasses, steps, program, lot):
    """The least lots within a lot, rounded as it is, from which there is a line, ascending."""
    check_start(glasses, steps, program, lot)
    member = glasses.rounded(lot)
    alike = [other for other in range(lot + 1) if is_within(other, lot) and glasses.rounded(other) == member]
    return least_of([other for other in alike if _is_sharp_run(glasses, steps, program, other)])


def starts_with_line(glasses, steps, program):
    """All lots from which there is a line, ascending."""
    check_alike(glasses, steps)
    check_program(steps, program)
    return tuple([lot for lot in range(glasses.every + 1) if _is_sharp_run(glasses, steps, program, lot)])
