"""Mends: lots that make a program exact at a start when they are added to the glasses."""

from truealarms.blurs import first_blur
from truealarms.errors import TooMany
from truealarms.glasses import Glasses
from truealarms.lots import check_lot, greatest_of
from truealarms.seenends import check_start, seen_ends
from truealarms.trueends import true_end

MOST_STANDS_SINGLE = 5
MOST_STANDS_COUPLES = 4


class MendedRun:
    """The glasses that are left when there is no blur, and the blurs that were mended one by one."""

    def __init__(self, glasses, blurs):
        self.glasses = glasses
        self.blurs = blurs


def mended_glasses(glasses, lot):
    """The glasses with a lot added."""
    check_lot(glasses.stands, lot)
    # ALL is a member, so the lot itself is among the common parts.
    common = [member & lot for member in glasses.members]
    return Glasses(glasses.stands, sorted(set([*glasses.members, *common])))


def _is_mended(glasses, steps, program, lot):
    """Whether a program is exact at a lot; nothing is checked."""
    return seen_ends(glasses, steps, program)[lot] == glasses.rounded(true_end(steps, program, lot))


def _check_work(glasses, most):
    if glasses.stands > most:
        raise TooMany(most)


def _no_members(glasses):
    """All lots that are no members, ascending."""
    return [lot for lot in range(glasses.every) if lot not in glasses]


def single_mends(glasses, steps, program, lot):
    """All lots, no members, with which, added alone, the program is exact at the start, ascending."""
    check_start(glasses, steps, program, lot)
    _check_work(glasses, MOST_STANDS_SINGLE)
    tried = _no_members(glasses)
    return tuple([mend for mend in tried if _is_mended(mended_glasses(glasses, mend), steps, program, lot)])


def greatest_mends(glasses, steps, program, lot):
    """The single mends that are within no other one, ascending."""
    return greatest_of(single_mends(glasses, steps, program, lot))


def _first_couple(glasses, steps, program, lot):
    """The first two lots, no members, with which the program is exact at the start, or None."""
    tried = _no_members(glasses)
    for place, one in enumerate(tried):
        finer = mended_glasses(glasses, one)
        for other in tried[place + 1:]:
            if _is_mended(mended_glasses(finer, other), steps, program, lot):
                return (one, other)
    return None


def fewest_added(glasses, steps, program, lot):
    """As few lots as do, at most two, that make the program exact at the start, or None."""
    check_start(glasses, steps, program, lot)
    _check_work(glasses, MOST_STANDS_COUPLES)
    if _is_mended(glasses, steps, program, lot):
        return ()
    mends = single_mends(glasses, steps, program, lot)
    if mends:
        return mends[:1]
    return _first_couple(glasses, steps, program, lot)


def mended_run(glasses, steps, program, lot):
    """Add the mend of the first blur until there is no blur."""
    blurs = []
    mended = glasses
    blur = first_blur(mended, steps, program, lot)
    while blur is not None:
        blurs.append(blur)
        mended = mended_glasses(mended, blur.mend)
        blur = first_blur(mended, steps, program, lot)
    return MendedRun(mended, tuple(blurs))
