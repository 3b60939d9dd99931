"""Lots: sets of stands, written as whole numbers. Bit s is set exactly if stand s is in the lot."""

from truealarms.errors import BadLot, BadStands
from truealarms.wholes import is_sequence, is_whole

MOST_STANDS = 6
GREATEST_LOT = 63
MOST_LOTS = 64


def check_stands(v):
    """Return a number of stands."""
    if not is_whole(v, 1, MOST_STANDS):
        raise BadStands()
    return v


def all_stands(v):
    """The lot of all v stands."""
    return (1 << check_stands(v)) - 1


def check_lot(v, lot):
    """Return a lot of v stands."""
    if not is_whole(lot, 0, all_stands(v)):
        raise BadLot()
    return lot


def check_lots(v, lots):
    """Return a sequence of lots of v stands as a tuple, in its order."""
    check_stands(v)
    if not is_sequence(lots) or len(lots) > MOST_LOTS:
        raise BadLot()
    return tuple([check_lot(v, lot) for lot in lots])


def lot_of(stands):
    """The lot of a sequence of stands."""
    if not is_sequence(stands):
        raise BadLot()
    lot = 0
    for stand in stands:
        if not is_whole(stand, 0, MOST_STANDS - 1):
            raise BadLot()
        lot |= 1 << stand
    return lot


def _any_lot(lot):
    """Return a lot of up to six stands."""
    if not is_whole(lot, 0, GREATEST_LOT):
        raise BadLot()
    return lot


def stands_of(lot):
    """The stands of a lot, ascending."""
    _any_lot(lot)
    return tuple([stand for stand in range(MOST_STANDS) if lot >> stand & 1])


def size_of(lot):
    """How many stands a lot has."""
    return len(stands_of(lot))


def is_within(one, other):
    """Whether all stands of one lot are in the other one."""
    return _any_lot(one) & ~_any_lot(other) == 0


def least_of(lots):
    """Those of some lots that hold no other one of them, in their order."""
    return tuple([lot for lot in lots if not any([other != lot and other & ~lot == 0 for other in lots])])


def greatest_of(lots):
    """Those of some lots that are within no other one of them, in their order."""
    return tuple([lot for lot in lots if not any([other != lot and lot & ~other == 0 for other in lots])])


def lot_text(lot):
    """The stands of a lot in braces, for people to read."""
    return "{" + ", ".join([str(stand) for stand in stands_of(lot)]) + "}"
