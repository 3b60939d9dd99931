"""Fences: one member for each again of a program, which show within what a seen end lies."""

from truealarms.glasses import check_member
from truealarms.lots import is_within
from truealarms.programs import nodes_of
from truealarms.rows import next_lot
from truealarms.seenends import check_start, seen_ends
from truealarms.wholes import is_sequence


class Walk:
    """A walk through a program that goes by fences; the least ones are found if none are given."""

    def __init__(self, glasses, steps, given):
        self.glasses = glasses
        self.steps = steps
        self.given = given
        self.fences = []
        self.faults = []

    def fence_at(self, program, member):
        """The fence of the next again, to which the member comes."""
        if self.given is None:
            return seen_ends(self.glasses, self.steps, program)[member]
        return self.given[len(self.fences)]

    def end_of_again(self, program, member):
        """Put the fence behind those so far, walk the inner program from it, and return it."""
        fence = self.fence_at(program, member)
        self.fences.append(fence)
        if not is_within(member, fence):
            self.faults.append("start")
        if not is_within(self.end_of(program[1], fence), fence):
            self.faults.append("round")
        return fence

    def end_of(self, program, member):
        """The member that the walk through a program ends in."""
        shape = program[0]
        if shape == "step":
            return self.glasses.rounded(next_lot(self.steps.row_of(program[1]), member))
        if shape == "nothing":
            return member
        if shape == "again":
            return self.end_of_again(program, member)
        left = self.end_of(program[1], member)
        if shape == "behind":
            return self.end_of(program[2], left)
        return self.glasses.rounded(left | self.end_of(program[2], member))


def find_fences(glasses, steps, program, lot):
    """The least fences of a program from a lot."""
    check_start(glasses, steps, program, lot)
    walk = Walk(glasses, steps, None)
    walk.end_of(program, glasses.rounded(lot))
    return tuple(walk.fences)


def _count_agains(program):
    return len([node for node in nodes_of(program) if node[0] == "again"])


def fences_fault(glasses, steps, program, lot, wish, fences):
    """What is wrong with fences that are to show that the seen end lies within the wish, or None."""
    check_start(glasses, steps, program, lot)
    check_member(glasses, wish)
    if not is_sequence(fences) or len(fences) != _count_agains(program):
        return "many"
    if not all([fence in glasses for fence in fences]):
        return "member"
    walk = Walk(glasses, steps, fences)
    end = walk.end_of(program, glasses.rounded(lot))
    for word in ("start", "round"):
        if word in walk.faults:
            return word
    return None if is_within(end, wish) else "wish"
