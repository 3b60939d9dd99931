"""Edits of glasses and steps, and which of them meet demands."""

from truealarms.errors import BadDemand, BadEdit, BadRow, Spoilt
from truealarms.exactness import exact_at
from truealarms.families import needed_members
from truealarms.glasses import Glasses
from truealarms.lots import is_within
from truealarms.mends import mended_glasses
from truealarms.programs import is_program
from truealarms.rows import check_row
from truealarms.seenends import check_alike, seen_end
from truealarms.wholes import is_sequence, is_whole

MOST_EDITS = 12
MOST_IN_POOL = 5
MOST_DEMANDS = 6
# How many items each form has.
EDIT_FORMS = {"member": 2, "drop": 2, "row": 3}
DEMAND_FORMS = {"exact": 3, "quiet": 4}


def _first_text(thing):
    """The first item of a sequence if it is a text, otherwise a text that is the word of no form."""
    if not is_sequence(thing) or len(thing) == 0 or not isinstance(thing[0], str):
        return ""
    return thing[0]


def _is_row(stands, thing):
    try:
        check_row(stands, thing)
    except BadRow:
        return False
    return True


def _edit_fault(glasses, steps, edit):
    """The word of the first fault of an edit, or None."""
    word = _first_text(edit)
    if word not in EDIT_FORMS or len(edit) != EDIT_FORMS[word]:
        return "kind"
    if word != "row":
        return None if is_whole(edit[1], 0, glasses.every) else "lot"
    if edit[1] not in steps:
        return "name"
    return None if _is_row(glasses.stands, edit[2]) else "row"


def _check_edits(glasses, steps, edits, fewest, most):
    if not is_sequence(edits) or not fewest <= len(edits) <= most:
        raise BadEdit(0, "many")
    for place, edit in enumerate(edits):
        word = _edit_fault(glasses, steps, edit)
        if word is not None:
            raise BadEdit(place, word)


def _without_member(glasses, lot):
    return Glasses(glasses.stands, [member for member in glasses.members if member != lot])


def _edited(glasses, steps, edits):
    """The glasses and steps behind edits, which are made one after another; they are not checked."""
    for place, edit in enumerate(edits):
        if edit[0] == "row":
            steps = steps.with_row(edit[1], edit[2])
        elif edit[0] == "member":
            glasses = mended_glasses(glasses, edit[1])
        elif edit[1] in needed_members(glasses):
            glasses = _without_member(glasses, edit[1])
        else:
            raise Spoilt(place)
    return (glasses, steps)


def apply_edits(glasses, steps, edits):
    """The glasses and steps behind edits, which are made one after another."""
    check_alike(glasses, steps)
    _check_edits(glasses, steps, edits, 0, MOST_EDITS)
    return _edited(glasses, steps, edits)


def _is_demand(glasses, steps, demand):
    """Whether a thing of any kind is a demand."""
    word = _first_text(demand)
    if word not in DEMAND_FORMS or len(demand) != DEMAND_FORMS[word] or not is_program(steps, demand[1]):
        return False
    return all([is_whole(lot, 0, glasses.every) for lot in demand[2:]])


def _check_asked(glasses, steps, pool, demands):
    check_alike(glasses, steps)
    _check_edits(glasses, steps, pool, 1, MOST_IN_POOL)
    if not is_sequence(demands) or not 1 <= len(demands) <= MOST_DEMANDS:
        raise BadDemand(None)
    for place, demand in enumerate(demands):
        if not _is_demand(glasses, steps, demand):
            raise BadDemand(place)


def _is_met(glasses, steps, demand):
    if demand[0] == "exact":
        return exact_at(glasses, steps, demand[1], demand[2])
    return is_within(seen_end(glasses, steps, demand[1], demand[2]), demand[3])


def _is_mend(glasses, steps, edits, demands):
    """Whether edits are not spoilt and all demands are met behind them."""
    try:
        mended, changed = _edited(glasses, steps, edits)
    except Spoilt:
        return False
    return all([_is_met(mended, changed, demand) for demand in demands])


def _all_picks(many):
    """All picks of a pool of so many edits: those with fewer indexes first, equally many in ascending order."""
    picks = [()]
    for index in range(many):
        picks = picks + [pick + (index,) for pick in picks]
    return sorted(picks, key=lambda one: (len(one), one))


def _all_mends(glasses, steps, pool, demands):
    """All mends out of a pool, in the order of the picks."""
    picks = _all_picks(len(pool))
    return [pick for pick in picks if _is_mend(glasses, steps, [pool[index] for index in pick], demands)]


def _is_least(pick, mends):
    """Whether no other mend lies within a pick."""
    return not any([mend != pick and all([index in pick for index in mend]) for mend in mends])


def find_mends(glasses, steps, pool, demands):
    """The least picks out of a pool of edits behind which all demands are met."""
    _check_asked(glasses, steps, pool, demands)
    mends = _all_mends(glasses, steps, pool, demands)
    return tuple([pick for pick in mends if _is_least(pick, mends)])


def _is_pick(thing, many):
    """Whether a thing of any kind is a pick of a pool of so many edits."""
    # True and False are equal to indexes, but they are no indexes.
    if not isinstance(thing, tuple) or not all([is_whole(index) for index in thing]):
        return False
    return thing in _all_picks(many)


def mends_fault(glasses, steps, pool, demands, picks):
    """What is wrong with an answer of find_mends, or None."""
    _check_asked(glasses, steps, pool, demands)
    if not isinstance(picks, tuple) or not all([_is_pick(pick, len(pool)) for pick in picks]):
        return "form"
    mends = _all_mends(glasses, steps, pool, demands)
    if not all([pick in mends for pick in picks]):
        return "unmet"
    least = [mend for mend in mends if _is_least(mend, mends)]
    if not all([pick in least for pick in picks]):
        return "least"
    if list(picks) != [mend for mend in least if mend in picks]:
        return "order"
    return None if len(picks) == len(least) else "lacking"
