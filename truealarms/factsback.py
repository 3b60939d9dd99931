"""Facts: what glasses round lots to, and which glasses fit. A fact (S, R) says that S is rounded to R."""

from truealarms.errors import BadFact, NoneFits
from truealarms.families import all_glasses, made_glasses, needed_members
from truealarms.glasses import Glasses
from truealarms.lots import all_stands, check_lot
from truealarms.wholes import is_sequence, is_whole

MOST_FACTS = 64


class Misfit:
    """The places of two facts, or twice the place of one, that no glasses fit."""

    def __init__(self, place, other):
        self.place = place
        self.other = other


def _is_fact(every, thing):
    if not is_sequence(thing) or len(thing) != 2:
        return False
    return is_whole(thing[0], 0, every) and is_whole(thing[1], 0, every)


def check_facts(stands, facts):
    """Return facts about glasses of so many stands as a tuple of tuples."""
    every = all_stands(stands)
    if not is_sequence(facts) or len(facts) > MOST_FACTS:
        raise BadFact(None)
    for place, fact in enumerate(facts):
        if not _is_fact(every, fact):
            raise BadFact(place)
    return tuple([tuple(fact) for fact in facts])


def is_fitting(glasses, facts):
    """Whether glasses round the lot of each fact as the fact says."""
    checked = check_facts(glasses.stands, facts)
    return all([glasses.rounded(lot) == told for lot, told in checked])


def _keeps(lot, fact):
    """Whether a lot that holds the lot of a fact holds what this is rounded to."""
    return fact[0] & ~lot != 0 or fact[1] & ~lot == 0


def _is_misfit(facts, place, other):
    if place == other:
        return facts[place][0] & ~facts[place][1] != 0
    return not _keeps(facts[place][1], facts[other])


def _misfit_in(facts):
    for place in range(len(facts)):
        for other in range(len(facts)):
            if _is_misfit(facts, place, other):
                return Misfit(place, other)
    return None


def misfit_of(stands, facts):
    """The first places of two facts, or twice that of one, that no glasses fit, or None if some glasses fit all."""
    return _misfit_in(check_facts(stands, facts))


def _check_fit(facts):
    misfit = _misfit_in(facts)
    if misfit is not None:
        raise NoneFits(misfit.place, misfit.other)


def _finest(stands, facts):
    lots = range(all_stands(stands) + 1)
    return Glasses(stands, [lot for lot in lots if all([_keeps(lot, fact) for fact in facts])])


def _coarsest(stands, facts):
    return made_glasses(stands, [told for _, told in facts])


def finest_glasses(stands, facts):
    """The finest glasses that fit: their members are all lots that keep every fact."""
    checked = check_facts(stands, facts)
    _check_fit(checked)
    return _finest(stands, checked)


def coarsest_glasses(stands, facts):
    """The coarsest glasses that fit: they are made of what is told of the lots."""
    checked = check_facts(stands, facts)
    _check_fit(checked)
    return _coarsest(stands, checked)


def count_fitting(stands, facts):
    """How many glasses fit."""
    checked = check_facts(stands, facts)
    # Of too many stands all_glasses raises the error that is due.
    return len([glasses for glasses in all_glasses(stands) if is_fitting(glasses, checked)])


def next_ask(stands, facts):
    """The least lot that some fitting glasses round unlike others, or None."""
    finest = finest_glasses(stands, facts)
    coarsest = coarsest_glasses(stands, facts)
    for lot in range(finest.every + 1):
        if finest.rounded(lot) != coarsest.rounded(lot):
            return lot
    return None


def shows_surely(stands, facts, lot):
    """What all fitting glasses round a lot to, or None if they do not round it alike."""
    check_facts(stands, facts)
    check_lot(stands, lot)
    surely = finest_glasses(stands, facts).rounded(lot)
    return surely if coarsest_glasses(stands, facts).rounded(lot) == surely else None


def _hidden_facts(glasses):
    """The facts of the lots that, being no members, must be told to be none."""
    facts = []
    for lot in range(glasses.every):
        # Those that are within the lot, and not the lot itself, are lesser numbers.
        if lot not in glasses and all([_keeps(lot, fact) for fact in facts]):
            facts.append((lot, glasses.rounded(lot)))
    return facts


def telling_facts(glasses):
    """The fewest facts that tell the glasses back, ascending."""
    hidden = _hidden_facts(glasses)
    told = [member for _, member in hidden]
    return tuple(sorted(hidden + [(member, member) for member in needed_members(glasses) if member not in told]))
