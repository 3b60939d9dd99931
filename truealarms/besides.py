"""Glasses beside glasses: what two of them have between them, and what they have in common."""

from truealarms.glasses import Glasses
from truealarms.seenends import check_alike


def both_glasses(one, other):
    """The least glasses that are finer than both."""
    check_alike(one, other)
    # ALL is a member of both, so the members of each are among the common parts.
    common = [member & further for member in one.members for further in other.members]
    return Glasses(one.stands, sorted(set(common)))


def common_glasses(one, other):
    """The glasses of the members that both have."""
    check_alike(one, other)
    return Glasses(one.stands, [member for member in one.members if member in other])
