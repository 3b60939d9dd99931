"""Counters: glasses, steps, programs and starts in which the right of a rewriting is seen sharper than the left."""

from truealarms.errors import NoCounter
from truealarms.glasses import Glasses
from truealarms.rewritings import verdict_of
from truealarms.steps import Steps

COUNTER_STANDS = 4
COUNTER_MEMBERS = (0, 1, 2, 7, 10, 15)
COUNTER_ENTRIES = (("f", (2, 2, 8, 2)), ("g", (1, 2, 8, 2)), ("h", (2, 2, 2, 2)))
COUNTER_START = 1
# Each left comes to the stands 0 and 1, which are rounded to 7; so it is seen to end in stand 3, to which the steps
# lead from stand 2 alone. Its right is not.
COUNTER_PROGRAMS = {
    "spread_last": (("nothing",), ("step", "f"), ("step", "f")),
    "unroll": (("step", "f"),),
    "slide_one": (("step", "f"),),
    "slide_two": (("step", "f"), ("nothing",)),
    "part_again": (("step", "g"), ("step", "h")),
    "halve_again": (("step", "f"),),
}


class Counter:
    """Glasses, steps, programs for the letters, and a start from which the right is seen sharper than the left."""

    def __init__(self, glasses, steps, programs, start):
        self.glasses = glasses
        self.steps = steps
        self.programs = programs
        self.start = start


def counter_of(name):
    """A counter of a sharper rewriting."""
    if verdict_of(name) == "alike":
        raise NoCounter()
    glasses = Glasses(COUNTER_STANDS, COUNTER_MEMBERS)
    steps = Steps(COUNTER_STANDS, COUNTER_ENTRIES)
    return Counter(glasses, steps, COUNTER_PROGRAMS[name], COUNTER_START)


def ungathered_pair(glasses):
    """The first two members whose union is no member, or None."""
    for place, one in enumerate(glasses.members):
        for other in glasses.members[place + 1:]:
            if one | other not in glasses:
                return (one, other)
    return None


def _leading_out(glasses, lot):
    """The row that leads nowhere from the stands of a lot, and everywhere from all others."""
    return tuple([0 if lot >> stand & 1 else glasses.every for stand in range(glasses.stands)])


def _counter_with(glasses, rows):
    """The counter whose programs are steps with these rows, from ALL."""
    steps = Steps(glasses.stands, list(zip("rst", rows)))
    return Counter(glasses, steps, tuple([("step", name) for name in steps.names]), glasses.every)


def counter_in(glasses):
    """A counter of spread_last in these very glasses, or None if they are gathered."""
    pair = ungathered_pair(glasses)
    if pair is None:
        return None
    one, other = pair
    # The union is rounded to more than itself; from the rest alone the last step leads on.
    rows = [(one,) * glasses.stands, (other,) * glasses.stands, _leading_out(glasses, one | other)]
    return _counter_with(glasses, rows)


def fusing_counter(glasses):
    """A counter whose programs are two steps that are seen sharper when they are fused, or None."""
    missing = [lot for lot in range(glasses.every) if lot not in glasses]
    if len(glasses) == 1 or not missing:
        return None
    # The first step leads to a lot that is rounded to more than itself; from the rest alone the second one leads on.
    lot = missing[0]
    return _counter_with(glasses, [(lot,) * glasses.stands, _leading_out(glasses, lot)])
