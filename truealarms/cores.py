"""Cores: the greatest sharp row within a row."""

from truealarms.lots import stands_of
from truealarms.rows import back_lot, check_row
from truealarms.sharpness import unsharp_member
from truealarms.wholes import is_whole


class Core:
    """A core, and the cuts that lead to it."""

    def __init__(self, row, cuts):
        self.row = row
        self.cuts = cuts


def _cuttable(glasses, row, member):
    """The stands at which a cut with the member is right, as a lot."""
    back = back_lot(row, member)
    return glasses.rounded(back) & ~back


def _next_cut(glasses, row):
    """The right cut with the least member, and at its least stand, or None."""
    for member in glasses.members:
        found = _cuttable(glasses, row, member)
        if found:
            return (stands_of(found)[0], member)
    return None


def _cut_row(row, cut):
    stand, member = cut
    return row[:stand] + (row[stand] & member,) + row[stand + 1:]


def sharp_core(glasses, row):
    """The greatest sharp row within a row, with right cuts that lead to it."""
    left = check_row(glasses.stands, row)
    cuts = []
    # If no cut is right, each back lot of a member is a member; so the row that is left is sharp.
    cut = _next_cut(glasses, left)
    while cut is not None:
        cuts.append(cut)
        left = _cut_row(left, cut)
        cut = _next_cut(glasses, left)
    return Core(left, tuple(cuts))


def _is_cut(glasses, cut):
    if not isinstance(cut, tuple) or len(cut) != 2:
        return False
    return is_whole(cut[0], 0, glasses.stands - 1) and cut[1] in glasses


def core_fault(glasses, row, core):
    """The first fault of a core of a row, as its number and its word, or None."""
    left = check_row(glasses.stands, row)
    for number, cut in enumerate(core.cuts):
        if not _is_cut(glasses, cut):
            return (number, "cut")
        if not _cuttable(glasses, left, cut[1]) >> cut[0] & 1:
            return (number, "back")
        left = _cut_row(left, cut)
    if not isinstance(core.row, tuple) or core.row != left:
        return (len(core.cuts), "row")
    return None if unsharp_member(glasses, left) is None else (len(core.cuts), "sharp")
