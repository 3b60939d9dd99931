"""Refining: the least finer glasses in which steps are sharp, and the greatest part of glasses in which they are."""

from truealarms.glasses import Glasses
from truealarms.rows import back_lot
from truealarms.seenends import check_alike
from truealarms.wholes import is_whole


class Refined:
    """Refined glasses, and a reason for each added lot."""

    def __init__(self, glasses, reasons):
        self.glasses = glasses
        self.reasons = reasons


class SharpPart:
    """The part of glasses in which steps are sharp, and why each other member is lost."""

    def __init__(self, glasses, lost):
        self.glasses = glasses
        self.lost = lost


def _reasons_with(steps, had, member):
    """The reasons for lots that a member has with itself and with all lots that are had."""
    backs = [(back_lot(row, member), "back", name, member) for name, row in zip(steps.names, steps.rows)]
    return backs + [(member & other, "meet", member, other) for other in had]


def sharp_refinement(glasses, steps):
    """The least finer glasses in which each of the steps is sharp."""
    check_alike(glasses, steps)
    had = list(glasses.members)
    reasons = []
    done = 0
    while done < len(had):
        for reason in _reasons_with(steps, had[:done], had[done]):
            if reason[0] not in had:
                had.append(reason[0])
                reasons.append(reason)
        done += 1
    return Refined(Glasses(glasses.stands, sorted(had)), tuple(reasons))


def _is_had(had, thing):
    # True and False are equal to lots, but they are no lots.
    return is_whole(thing) and thing in had


def _back_fault(steps, had, reason):
    lot, _, name, member = reason
    if name not in steps:
        return "name"
    if not _is_had(had, member):
        return "had"
    return None if back_lot(steps.row_of(name), member) == lot else "wrong"


def _meet_fault(had, reason):
    lot, _, one, other = reason
    if not _is_had(had, one) or not _is_had(had, other):
        return "had"
    return None if one & other == lot else "wrong"


def _reason_fault(glasses, steps, had, reason):
    """The word of the first fault of a reason, or None."""
    if not isinstance(reason, tuple) or len(reason) != 4 or reason[1] not in ("back", "meet"):
        return "form"
    if not is_whole(reason[0], 0, glasses.every) or reason[0] in had:
        return "lot"
    return _back_fault(steps, had, reason) if reason[1] == "back" else _meet_fault(had, reason)


def _is_closed(steps, had):
    """Whether all lots are had for which there are reasons."""
    for member in had:
        for reason in _reasons_with(steps, had, member):
            if reason[0] not in had:
                return False
    return True


def refined_fault(glasses, steps, refined):
    """The first fault of a refinement, as its place and its word, or None."""
    check_alike(glasses, steps)
    had = list(glasses.members)
    for place, reason in enumerate(refined.reasons):
        word = _reason_fault(glasses, steps, had, reason)
        if word is not None:
            return (place, word)
        had.append(reason[0])
    end = len(refined.reasons)
    if not _is_closed(steps, had):
        return (end, "closed")
    return None if refined.glasses == Glasses(glasses.stands, sorted(had)) else (end, "glasses")


def _lost_member(glasses, steps, member):
    """The member, its shortest way back to a lot that is no member, and this lot, or None."""
    names = sorted(steps.names)
    # The ways stand in order, the shorter ones first; so each lot is come to by its least way.
    ways = [((), member)]
    come_to = {member: True}
    done = 0
    while done < len(ways):
        way, lot = ways[done]
        for name in names:
            back = back_lot(steps.row_of(name), lot)
            if back not in glasses:
                return (member, way + (name,), back)
            if back not in come_to:
                come_to[back] = True
                ways.append((way + (name,), back))
        done += 1
    return None


def sharp_part(glasses, steps):
    """The greatest glasses, of some of the members, in which each of the steps is sharp."""
    check_alike(glasses, steps)
    found = [_lost_member(glasses, steps, member) for member in glasses.members]
    lost = [one for one in found if one is not None]
    gone = [one[0] for one in lost]
    left = [member for member in glasses.members if member not in gone]
    return SharpPart(Glasses(glasses.stands, left), tuple(lost))
