"""Glasses: the lots that can be seen. ALL is among them, and with each two their common part."""

from truealarms.errors import BadGlasses, NoMember
from truealarms.lots import MOST_STANDS, all_stands, check_lot
from truealarms.wholes import is_sequence, is_whole


def check_member(glasses, lot):
    """Return a lot that is a member of the glasses."""
    if check_lot(glasses.stands, lot) not in glasses:
        raise NoMember()
    return lot


def _check_ascending(every, members):
    """Refuse the first member that is no lot or not above the one before it."""
    before = -1
    for place, member in enumerate(members):
        if not is_whole(member, 0, every):
            raise BadGlasses("lot", place)
        if member <= before:
            raise BadGlasses("order", place)
        before = member


def _check_meets(members):
    """Refuse the first two members whose common part is no member."""
    known = set(members)
    for place, member in enumerate(members):
        for further in range(place + 1, len(members)):
            if member & members[further] not in known:
                raise BadGlasses("meet", (place, further))


def _checked_members(stands, members):
    """Return the members as a tuple, or refuse them by the first word that applies."""
    if not is_whole(stands, 1, MOST_STANDS):
        raise BadGlasses("stands", 0)
    if not is_sequence(members) or len(members) == 0:
        raise BadGlasses("many", 0)
    every = all_stands(stands)
    _check_ascending(every, members)
    if members[-1] != every:
        raise BadGlasses("all", 0)
    _check_meets(members)
    return tuple(members)


class Glasses:
    """Some lots of a number of stands, their members, in ascending order."""

    def __init__(self, stands, members):
        checked = _checked_members(stands, members)
        self.stands = stands
        self.members = checked

    @property
    def every(self):
        """The lot of all stands."""
        return self.members[-1]

    @property
    def least(self):
        """The member that is within all others."""
        # A lot within another one is no greater as a number, so this is the first member.
        return self.members[0]

    def rounded(self, lot):
        """The least member that a lot is within."""
        check_lot(self.stands, lot)
        # One of the members above the lot is within all of them; so it is the least number, too.
        return min([member for member in self.members if lot & ~member == 0])

    def __contains__(self, thing):
        return is_whole(thing) and thing in self.members

    def __len__(self):
        return len(self.members)

    def __eq__(self, other):
        return isinstance(other, Glasses) and self.stands == other.stands and self.members == other.members
