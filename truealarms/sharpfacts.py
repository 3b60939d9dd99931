"""Facts about glasses in which steps are sharp."""

from truealarms.factsback import coarsest_glasses, finest_glasses, is_fitting
from truealarms.refining import sharp_part, sharp_refinement


class Between:
    """The coarsest and the finest of the glasses that fit facts and in which each of some steps is sharp."""

    def __init__(self, coarsest, finest):
        self.coarsest = coarsest
        self.finest = finest


def sharp_fitting(steps, facts):
    """Between what glasses those that fit and in which each of the steps is sharp lie, or None if there are none."""
    coarsest = sharp_refinement(coarsest_glasses(steps.stands, facts), steps).glasses
    if not is_fitting(coarsest, facts):
        return None
    return Between(coarsest, sharp_part(finest_glasses(steps.stands, facts), steps).glasses)
