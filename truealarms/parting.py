"""Partings: even glasses, their cells, and the coarsest cells that steps respect."""

from truealarms.errors import BadCells, NotEven
from truealarms.glasses import Glasses
from truealarms.lots import all_stands, least_of, stands_of
from truealarms.seenends import check_alike
from truealarms.wholes import is_sequence, is_whole


class Parted:
    """The cells of a parting, and the reasons why stands are apart."""

    def __init__(self, cells, reasons):
        self.cells = cells
        self.reasons = reasons


def check_cells(v, cells):
    """Return the cells of a parting of v stands, ascending."""
    every = all_stands(v)
    if not is_sequence(cells):
        raise BadCells("cells", 0)
    held = 0
    for place, cell in enumerate(cells):
        if not is_whole(cell, 1, every):
            raise BadCells("lot", place)
        if cell & held:
            raise BadCells("twice", place)
        held |= cell
    if held != every:
        raise BadCells("all", stands_of(every & ~held)[0])
    return tuple(sorted(cells))


def cells_of(glasses):
    """The cells of even glasses, ascending."""
    for member in glasses.members:
        if glasses.every & ~member not in glasses:
            raise NotEven(member)
    return least_of([member for member in glasses.members if member != 0])


def glasses_of_cells(v, cells):
    """The glasses whose members are 0 and all unions of cells."""
    unions = [0]
    # Cells share no stands; so one above others is above their unions, too, and the unions ascend.
    for cell in check_cells(v, cells):
        unions = unions + [lot | cell for lot in unions]
    return Glasses(v, unions)


def _stands_alike(glasses, stand):
    """The lot of all stands that are in just the same members as a stand."""
    alike = glasses.every
    for member in glasses.members:
        alike &= member if member >> stand & 1 else ~member
    return alike


def even_glasses(glasses):
    """The least even glasses that are finer than the given ones."""
    cells = sorted(set([_stands_alike(glasses, stand) for stand in range(glasses.stands)]))
    return glasses_of_cells(glasses.stands, cells)


def _are_in_one(cells, one, other):
    """Whether two stands are in one of the cells."""
    return any([cell >> one & 1 and cell >> other & 1 for cell in cells])


# In the following the item of apart at index s is the lot of the stands that are apart from s by the reasons so far.

def _set_apart(apart, one, other):
    apart[one] |= 1 << other
    apart[other] |= 1 << one


def _couples(stands):
    """All couples of stands, the lesser one first."""
    return [(one, other) for other in range(stands) for one in range(other)]


def _reason_for(cells, steps, apart, one, other):
    """A reason why two stands are apart, or None."""
    if not _are_in_one(cells, one, other):
        return (one, other, "", 0, 0)
    for name, row in zip(steps.names, steps.rows):
        for mover, stayer in ((one, other), (other, one)):
            for goal in stands_of(row[mover]):
                if row[stayer] & ~apart[goal] == 0:
                    return (one, other, name, mover, goal)
    return None


def _next_reason(cells, steps, apart):
    """A reason why two stands are apart for which there is none so far, or None."""
    for one, other in _couples(steps.stands):
        reason = None if apart[one] >> other & 1 else _reason_for(cells, steps, apart, one, other)
        if reason is not None:
            return reason
    return None


def cells_refined(cells, steps):
    """The coarsest parting that is no coarser than the cells and steady for the steps."""
    given = check_cells(steps.stands, cells)
    apart = [0] * steps.stands
    reasons = []
    reason = _next_reason(given, steps, apart)
    while reason is not None:
        reasons.append(reason)
        _set_apart(apart, reason[0], reason[1])
        reason = _next_reason(given, steps, apart)
    # The stands that are not apart from a stand are the cell in which it is.
    every = all_stands(steps.stands)
    return Parted(tuple(sorted(set([every & ~lot for lot in apart]))), tuple(reasons))


def even_refinement(glasses, steps):
    """The least finer glasses that are even and in which each of the steps is sharp."""
    check_alike(glasses, steps)
    parted = cells_refined(cells_of(even_glasses(glasses)), steps)
    return glasses_of_cells(glasses.stands, parted.cells)


def _is_reason(thing):
    """Whether a thing of any kind is a tuple of five of the right kinds."""
    if not isinstance(thing, tuple) or len(thing) != 5 or not isinstance(thing[2], str):
        return False
    return all([is_whole(item) for item in thing[:2] + thing[3:]])


def _move_fault(row, apart, stayer, mover, goal):
    """The word of the first fault of a move that no next one of the other stand can match, or None."""
    if goal not in stands_of(row[mover]):
        return "goal"
    return None if row[stayer] & ~apart[goal] == 0 else "apart"


def _reason_fault(cells, steps, apart, reason):
    """The word of the first fault of a reason, or None."""
    if not _is_reason(reason):
        return "form"
    one, other, name, mover, goal = reason
    if not 0 <= one < other < steps.stands or apart[one] >> other & 1:
        return "pair"
    if name == "":
        return "cell" if _are_in_one(cells, one, other) else None
    if name not in steps:
        return "name"
    if mover not in (one, other):
        return "mover"
    return _move_fault(steps.row_of(name), apart, one if mover == other else other, mover, goal)


def _is_parting(stands, cells):
    """Whether a thing of any kind is the ascending tuple of the cells of a parting."""
    try:
        return check_cells(stands, cells) == cells
    except BadCells:
        return False


def _have_due_reasons(given, cells, apart):
    """Whether there is a reason for each two stands in unlike cells, given or told, and for no others."""
    for one, other in _couples(len(apart)):
        is_apart = apart[one] >> other & 1 == 1
        if is_apart == _are_in_one(cells, one, other):
            return False
        if not is_apart and not _are_in_one(given, one, other):
            return False
    return True


def parted_fault(cells, steps, parted):
    """The first fault of a parting, as its place and its word, or None."""
    given = check_cells(steps.stands, cells)
    apart = [0] * steps.stands
    for place, reason in enumerate(parted.reasons):
        word = _reason_fault(given, steps, apart, reason)
        if word is not None:
            return (place, word)
        _set_apart(apart, reason[0], reason[1])
    end = len(parted.reasons)
    if not _is_parting(steps.stands, parted.cells):
        return (end, "cells")
    if not _have_due_reasons(given, parted.cells, apart):
        return (end, "reasons")
    # Stands that are not apart are in one cell; one more reason would be a step that does not respect it.
    return None if _next_reason(given, steps, apart) is None else (end, "steady")
