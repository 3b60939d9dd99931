"""Runs: the steps that a program meets on its way, true runs and seen ones alike."""

from truealarms.rows import next_lot


def _run_again(steps, rounding, program, path, lot, met):
    number = 0
    reached = lot
    while True:
        grown = rounding[reached | _run(steps, rounding, program[1], path + (number,), reached, met)]
        if grown == reached:
            return reached
        reached = grown
        number += 1


def _run(steps, rounding, program, path, lot, met):
    """Put the steps that are met behind those met so far, and return the end."""
    shape = program[0]
    if shape == "step":
        after = rounding[next_lot(steps.row_of(program[1]), lot)]
        met.append((path, program[1], lot, after))
        return after
    if shape == "nothing":
        return lot
    if shape == "again":
        return _run_again(steps, rounding, program, path, lot, met)
    left = _run(steps, rounding, program[1], path + (0,), lot, met)
    if shape == "behind":
        return _run(steps, rounding, program[2], path + (1,), left, met)
    return rounding[left | _run(steps, rounding, program[2], path + (1,), lot, met)]


def steps_met(steps, rounding, program, lot):
    """The steps met, in order: tuples of the path, the name, the lot and what it comes to.

    The item of rounding at index S is what the lot S is rounded to. Nothing is checked.
    """
    met = []
    _run(steps, rounding, program, (), rounding[lot], met)
    return met
