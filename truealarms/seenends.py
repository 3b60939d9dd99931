"""Seen ends: what glasses show of where a program can come to."""

from truealarms.errors import UnlikeStands
from truealarms.lots import check_lot
from truealarms.programs import check_program
from truealarms.rows import next_lot
from truealarms.trueends import true_end


def check_alike(one, other):
    """Refuse two objects with unlike numbers of stands."""
    if one.stands != other.stands:
        raise UnlikeStands()


def check_start(glasses, steps, program, lot):
    """Refuse the first thing that is wrong with a program and its start."""
    check_alike(glasses, steps)
    check_program(steps, program)
    check_lot(glasses.stands, lot)


def rounding_of(glasses):
    """What each lot is rounded to: the item at index S is rounded S."""
    return tuple([glasses.rounded(lot) for lot in range(glasses.every + 1)])


def _closed_ends(rounding, inner):
    """The seen ends of an again, made of those of its inner program."""
    ends = []
    for member in rounding:
        reached = member
        while rounding[reached | inner[reached]] != reached:
            reached = rounding[reached | inner[reached]]
        ends.append(reached)
    return tuple(ends)


def _composed_ends(steps, rounding, program):
    shape = program[0]
    if shape == "step":
        row = steps.row_of(program[1])
        return tuple([rounding[next_lot(row, member)] for member in rounding])
    if shape == "nothing":
        return rounding
    left = _composed_ends(steps, rounding, program[1])
    if shape == "again":
        return _closed_ends(rounding, left)
    right = _composed_ends(steps, rounding, program[2])
    if shape == "behind":
        return tuple([right[member] for member in left])
    return tuple([rounding[one | other] for one, other in zip(left, right)])


def seen_ends(glasses, steps, program):
    """The seen ends from all lots: the item at index S is the one from S. Nothing is checked."""
    return _composed_ends(steps, rounding_of(glasses), program)


def seen_end(glasses, steps, program, lot):
    """The seen end of a program from a lot."""
    check_start(glasses, steps, program, lot)
    return seen_ends(glasses, steps, program)[lot]


def seen_table(glasses, steps, program):
    """The seen ends from each member, in the order of the members."""
    check_alike(glasses, steps)
    check_program(steps, program)
    ends = seen_ends(glasses, steps, program)
    return tuple([ends[member] for member in glasses.members])


def seen_gap(glasses, steps, program, lot):
    """The stands of the seen end that are not in the rounded true end."""
    seen = seen_end(glasses, steps, program, lot)
    return seen & ~glasses.rounded(true_end(steps, program, lot))


def is_finer(one, other):
    """Whether each member of the other glasses is a member of the one."""
    check_alike(one, other)
    return all([member in one for member in other.members])
