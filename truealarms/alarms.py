"""Alarms: which of them are true and which are false."""

from truealarms.exactness import exact_lots
from truealarms.glasses import check_member
from truealarms.lots import is_within
from truealarms.seenends import check_start, seen_end
from truealarms.trueends import true_end


def alarm_of(glasses, steps, program, lot, wish):
    """Whether there is no alarm for a wish at a start, a true one, or a false one."""
    check_start(glasses, steps, program, lot)
    check_member(glasses, wish)
    if is_within(seen_end(glasses, steps, program, lot), wish):
        return "none"
    return "false" if is_within(true_end(steps, program, lot), wish) else "true"


def false_wishes(glasses, steps, program, lot):
    """All wishes with a false alarm at a start, ascending."""
    seen = seen_end(glasses, steps, program, lot)
    end = true_end(steps, program, lot)
    return tuple([wish for wish in glasses.members if is_within(end, wish) and not is_within(seen, wish)])


def starts_exact(glasses, steps, program):
    """All starts at which a program is exact, ascending."""
    return exact_lots(glasses, steps, program)
