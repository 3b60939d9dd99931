"""Exact programs: those whose seen end is no greater than their true end lets it be."""

from truealarms.rows import next_lot
from truealarms.seenends import check_alike, check_start, seen_ends
from truealarms.sharpness import sharp_at, unsharp_member
from truealarms.trueends import meaning_row


class Misled:
    """The name of a step, a lot, and a wish for which the step has a false alarm from this lot."""

    def __init__(self, name, lot, wish):
        self.name = name
        self.lot = lot
        self.wish = wish


def exact_lots(glasses, steps, program):
    """All lots at which a program is exact, ascending."""
    check_alike(glasses, steps)
    row = meaning_row(steps, program)
    ends = seen_ends(glasses, steps, program)
    return tuple([lot for lot in range(glasses.every + 1) if glasses.rounded(next_lot(row, lot)) == ends[lot]])


def exact_at(glasses, steps, program, lot):
    """Whether the rounded true end is the seen end."""
    check_start(glasses, steps, program, lot)
    return lot in exact_lots(glasses, steps, program)


def first_inexact(glasses, steps, program):
    """The first lot at which a program is not exact, or None."""
    exact = exact_lots(glasses, steps, program)
    for lot in range(glasses.every + 1):
        if lot not in exact:
            return lot
    return None


def exactness_word(glasses, steps, program, lot):
    """Whether a program is exact at a lot, and if not, what is to blame."""
    check_start(glasses, steps, program, lot)
    exact = exact_lots(glasses, steps, program)
    if lot in exact:
        return "exact"
    if sharp_at(glasses, meaning_row(steps, program), lot):
        return "run"
    return "rounding" if glasses.rounded(lot) in exact else "both"


def all_exact(glasses, steps):
    """None if all programs over the steps are exact at all lots, otherwise where one is not."""
    check_alike(glasses, steps)
    for name in steps.names:
        unsharp = unsharp_member(glasses, steps.row_of(name))
        if unsharp is not None:
            return Misled(name, unsharp.back, unsharp.member)
    return None
