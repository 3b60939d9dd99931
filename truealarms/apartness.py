"""Glasses that see two names apart: a lot is rounded for each name on its own."""

from truealarms.glasses import Glasses
from truealarms.lots import all_stands
from truealarms.names import Pair, box_of, is_box, side_row
from truealarms.seenends import check_alike
from truealarms.sharpness import unsharp_member


def apart_glasses(one, other):
    """The glasses of the pair whose members are the boxes of a member of each name."""
    pair = Pair(one.stands, other.stands)
    boxes = [box_of(pair, first, second) for first in one.members for second in other.members]
    return Glasses(pair.stands, sorted(set(boxes)))


def related_lots(pair, glasses):
    """The members that are no boxes, ascending."""
    check_alike(pair, glasses)
    return tuple([member for member in glasses.members if not is_box(pair, member)])


def finest_apart(pair, glasses):
    """The glasses of the two names whose apart glasses are the finest that the given ones are finer than."""
    check_alike(pair, glasses)
    every = all_stands(pair.first)
    rest = all_stands(pair.second)
    first = [lot for lot in range(every + 1) if box_of(pair, lot, rest) in glasses]
    second = [lot for lot in range(rest + 1) if box_of(pair, every, lot) in glasses]
    return (Glasses(pair.first, first), Glasses(pair.second, second))


def side_sharp(one, other, which, row):
    """Whether a step that changes one name alone is sharp by the apart glasses."""
    pair = Pair(one.stands, other.stands)
    changed = side_row(pair, which, row)
    return unsharp_member(apart_glasses(one, other), changed) is None
