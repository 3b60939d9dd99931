"""Kinds of steps, and whether all steps of a kind are sharp."""

from truealarms.errors import BadKind
from truealarms.lots import is_within, size_of, stands_of
from truealarms.rows import check_row, test_row

KINDS = ("any", "going", "single", "exchange", "test", "growing", "same")


class UnsharpRow:
    """A row that is not sharp, a member whose back lot is no member, and this back lot."""

    def __init__(self, row, member, back):
        self.row = row
        self.member = member
        self.back = back


def step_kinds():
    """The words of the seven kinds, in their order."""
    return KINDS


def _is_of_kind(row, kind):
    if kind == "going":
        return 0 not in row
    if kind == "single":
        return all([size_of(lot) == 1 for lot in row])
    if kind == "exchange":
        return _is_of_kind(row, "single") and len(set(row)) == len(row)
    if kind == "test":
        return all([lot in (0, 1 << stand) for stand, lot in enumerate(row)])
    if kind == "growing":
        return all([lot >> stand & 1 for stand, lot in enumerate(row)])
    return kind == "any" or len(set(row)) == 1


def kinds_of_row(stands, row):
    """The words of all kinds that a row is of, in their order."""
    checked = check_row(stands, row)
    return tuple([kind for kind in KINDS if _is_of_kind(checked, kind)])


def _can_have(kind, member, back):
    """Whether some step of the kind has this back lot, no member, of a member that is not ALL."""
    if kind in ("going", "single"):
        # No such step leads into 0 from anywhere; so 0 itself, a member, is its back lot.
        return member != 0
    if kind == "exchange":
        return size_of(member) == size_of(back)
    if kind == "test":
        return is_within(member, back)
    if kind == "growing":
        return is_within(back, member)
    return kind == "any" or back == 0


def _exchange_row(stands, member, back):
    """A row that leads from each stand in the back lot to one in the member, and from others to others."""
    every = (1 << stands) - 1
    starts = stands_of(back) + stands_of(every & ~back)
    ends = stands_of(member) + stands_of(every & ~member)
    ended = dict(zip(starts, ends))
    return tuple([1 << ended[stand] for stand in range(stands)])


def _row_with_back(stands, kind, member, back):
    """A row of the kind that has this back lot of the member."""
    every = (1 << stands) - 1
    if kind == "exchange":
        return _exchange_row(stands, member, back)
    if kind == "test":
        return test_row(stands, every & ~back | member)
    if kind == "growing":
        return tuple([1 << stand if back >> stand & 1 else every for stand in range(stands)])
    within, out = member, every & ~member
    if kind == "single":
        # The negative of a number has just its lowest bit in common with it.
        within, out = within & -within, out & -out
    return tuple([within if back >> stand & 1 else out for stand in range(stands)])


def every_step_sharp(glasses, kind):
    """None if all steps of the kind are sharp, otherwise one that is not."""
    if kind not in KINDS:
        raise BadKind()
    # The back lot of ALL is ALL for every step.
    for member in glasses.members[:-1]:
        for back in range(glasses.every):
            if back not in glasses and _can_have(kind, member, back):
                return UnsharpRow(_row_with_back(glasses.stands, kind, member, back), member, back)
    return None
