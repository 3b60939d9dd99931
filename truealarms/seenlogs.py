"""Rounds and seen runs: what glasses show of a program on its way."""

from truealarms.errors import NotAgain
from truealarms.runs import steps_met
from truealarms.seenends import check_start, rounding_of, seen_ends


class Seen:
    """A step that the seen run meets: where it stands, its name, the member, and the rounded next lot."""

    def __init__(self, path, name, lot, after):
        self.path = path
        self.name = name
        self.lot = lot
        self.after = after


def rounds_of(glasses, steps, program, lot):
    """The members that the rounds of an again begin with."""
    check_start(glasses, steps, program, lot)
    if program[0] != "again":
        raise NotAgain()
    ends = seen_ends(glasses, steps, program[1])
    members = []
    grown = glasses.rounded(lot)
    while grown not in members:
        members.append(grown)
        grown = glasses.rounded(grown | ends[grown])
    return tuple(members)


def seen_run(glasses, steps, program, lot):
    """The steps that the seen run meets, in its order."""
    check_start(glasses, steps, program, lot)
    rounding = rounding_of(glasses)
    for path, name, member, after in steps_met(steps, rounding, program, lot):
        yield Seen(path, name, member, after)
