"""Glasses made of lots, the lots that glasses need, and all glasses of a number of stands."""

from truealarms.errors import TooMany
from truealarms.glasses import Glasses
from truealarms.lots import all_stands, check_lots, check_stands

MOST_STANDS_TOLD = 3
MOST_STANDS_COUNTED = 4


def made_glasses(v, lots):
    """The least glasses of v stands that have all these lots as members."""
    checked = check_lots(v, lots)
    members = {all_stands(v): True}
    # The members so far hold their common parts, so one meeting of each with the new lot is enough.
    for lot in checked:
        for member in list(members):
            members[member & lot] = True
    return Glasses(v, sorted(members))


def _met_above(members, lot, every):
    """The common part of the members, other than the lot itself, that the lot is within."""
    common = every
    for member in members:
        if member != lot and lot & ~member == 0:
            common &= member
    return common


def needed_members(glasses):
    """The members, other than ALL, that are not the common part of the members above them."""
    members = glasses.members
    # Above ALL there is no member, so ALL itself is what its members above meet in.
    return tuple([lot for lot in members if _met_above(members, lot, glasses.every) != lot])


def _all_members(v):
    """The members of all glasses of v stands, ascending."""
    every = all_stands(v)
    families = [[every]]
    # Going down from ALL, a lot is left out or put in; it must be in if greater members meet in it.
    for lot in range(every - 1, -1, -1):
        left_out = [members for members in families if _met_above(members, lot, every) != lot]
        put_in = [[lot] + members for members in families]
        families = left_out + put_in
    return sorted([tuple(members) for members in families])


def _check_work(v, most):
    if check_stands(v) > most:
        raise TooMany(most)


def all_glasses(v):
    """All glasses of v stands, ascending by their members."""
    _check_work(v, MOST_STANDS_TOLD)
    for members in _all_members(v):
        yield Glasses(v, members)


def glasses_number(v):
    """How many glasses of v stands there are."""
    _check_work(v, MOST_STANDS_COUNTED)
    return len(_all_members(v))
