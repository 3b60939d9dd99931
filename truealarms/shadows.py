"""Shadows: what is left of a program over two names when only the steps of one name are kept."""

from truealarms.errors import UnlikeStands
from truealarms.names import side_row
from truealarms.programs import check_program
from truealarms.steps import Steps


def side_steps(pair, one, other):
    """The steps of the pair: those of the first name, then those of the second one."""
    if one.stands != pair.first or other.stands != pair.second:
        raise UnlikeStands()
    first = [(name, side_row(pair, 0, row)) for name, row in zip(one.names, one.rows)]
    second = [(name, side_row(pair, 1, row)) for name, row in zip(other.names, other.rows)]
    return Steps(pair.stands, first + second)


def _shadow_of(program, kept):
    if program[0] == "step":
        return program if program[1] in kept else ("nothing",)
    return (program[0],) + tuple([_shadow_of(inner, kept) for inner in program[1:]])


def shadow_program(steps, program, kept):
    """The program with each step that is not kept changed to nothing."""
    check_program(steps, program)
    return _shadow_of(program, kept)
