"""Blurs: steps that the true run meets at lots where they are not sharp."""

from truealarms.rows import back_lot, next_lot
from truealarms.seenends import check_start
from truealarms.sharpness import sharp_at
from truealarms.trueends import meaning_row, true_run


class Blur:
    """A step met where it is not sharp: its place, name and lot, what it comes to, and its mend."""

    def __init__(self, path, name, lot, true_next, seen_next, mend):
        self.path = path
        self.name = name
        self.lot = lot
        self.true_next = true_next
        self.seen_next = seen_next
        self.mend = mend


def _blur_of(glasses, row, met):
    member = glasses.rounded(met.lot)
    true_next = next_lot(row, met.lot)
    seen_next = glasses.rounded(next_lot(row, member))
    mend = member & back_lot(row, glasses.rounded(true_next))
    return Blur(met.path, met.name, met.lot, true_next, seen_next, mend)


def all_blurs(glasses, steps, program, lot):
    """All blurs of a program at a start, in the order of the true run."""
    check_start(glasses, steps, program, lot)
    for met in true_run(steps, program, lot):
        row = steps.row_of(met.name)
        if not sharp_at(glasses, row, met.lot):
            yield _blur_of(glasses, row, met)


def first_blur(glasses, steps, program, lot):
    """The first blur of a program at a start, or None."""
    for blur in all_blurs(glasses, steps, program, lot):
        return blur
    return None


def start_within(glasses, steps, program, lot):
    """The stands of the rounded start whose own true ends lie within the rounded true end of the start."""
    check_start(glasses, steps, program, lot)
    row = meaning_row(steps, program)
    return glasses.rounded(lot) & back_lot(row, glasses.rounded(next_lot(row, lot)))
