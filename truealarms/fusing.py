"""Fusing: two steps become one, and a program is split by two tests."""

from truealarms.errors import BadManner, NotAll, NotTest
from truealarms.programs import check_program
from truealarms.rows import behind_row, joined_row
from truealarms.steps import Steps


def fused_steps(steps, one, other, new, manner="behind"):
    """The steps, and behind them a new one that does what two of them do."""
    first = steps.row_of(one)
    second = steps.row_of(other)
    if manner not in ("behind", "either"):
        raise BadManner()
    row = behind_row(first, second) if manner == "behind" else joined_row(first, second)
    entries = list(zip(steps.names, steps.rows))
    return Steps(steps.stands, entries + [(new, row)])


def _is_test(row):
    return all([lot in (0, 1 << stand) for stand, lot in enumerate(row)])


def split_by(steps, program, one, other):
    """The program, taken behind either of two tests that keep all stands between them."""
    check_program(steps, program)
    first = steps.row_of(one)
    second = steps.row_of(other)
    for name, row in ((one, first), (other, second)):
        if not _is_test(row):
            raise NotTest(name)
    if 0 in joined_row(first, second):
        raise NotAll()
    return ("either", ("behind", ("step", one), program), ("behind", ("step", other), program))
