"""Sharp steps: those that lose nothing when the lot at which they are taken is rounded."""

from truealarms.lots import check_lot, greatest_of, least_of
from truealarms.rows import back_lot, check_row, next_lot
from truealarms.seenends import check_alike


class Unsharp:
    """A member whose back lot is no member, and this back lot."""

    def __init__(self, member, back):
        self.member = member
        self.back = back


def _is_sharp(glasses, row, lot):
    """Whether a row is sharp at a lot; nothing is checked."""
    after = glasses.rounded(next_lot(row, lot))
    return after == glasses.rounded(next_lot(row, glasses.rounded(lot)))


def sharp_at(glasses, row, lot):
    """Whether the next lots of the lot and of the rounded lot are rounded to the same member."""
    checked = check_row(glasses.stands, row)
    check_lot(glasses.stands, lot)
    return _is_sharp(glasses, checked, lot)


def blurring_lot(glasses, row, lot):
    """The stands of the rounded lot that lead out of what the next lot is rounded to."""
    checked = check_row(glasses.stands, row)
    check_lot(glasses.stands, lot)
    after = glasses.rounded(next_lot(checked, lot))
    return glasses.rounded(lot) & ~back_lot(checked, after)


def unsharp_member(glasses, row):
    """The first member whose back lot is no member, with this back lot, or None."""
    checked = check_row(glasses.stands, row)
    for member in glasses.members:
        back = back_lot(checked, member)
        if back not in glasses:
            return Unsharp(member, back)
    return None


def sharp_steps(glasses, steps):
    """The names of the steps that are sharp, in their order."""
    check_alike(glasses, steps)
    return tuple([name for name in steps.names if unsharp_member(glasses, steps.row_of(name)) is None])


def blurred_lots(glasses, row):
    """All lots at which a row is not sharp, ascending."""
    checked = check_row(glasses.stands, row)
    return tuple([lot for lot in range(glasses.every + 1) if not _is_sharp(glasses, checked, lot)])


def greatest_blurred(glasses, row):
    """The blurred lots that are within no other one, ascending."""
    return greatest_of(blurred_lots(glasses, row))


def least_sharp(glasses, row, lot):
    """The least lots rounded as the lot is at which a row is sharp, ascending."""
    checked = check_row(glasses.stands, row)
    check_lot(glasses.stands, lot)
    member = glasses.rounded(lot)
    # What is rounded to a member is within it, so it is no greater as a number.
    alike = [other for other in range(member + 1) if glasses.rounded(other) == member]
    return least_of([other for other in alike if _is_sharp(glasses, checked, other)])
