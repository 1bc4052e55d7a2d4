"""Whether markings occur, told from weightings and traps."""

from caseflow.algebra.closed import closed_steps, effects_of_steps
from caseflow.algebra.rows import null_basis, product_sum
from caseflow.algebra.siphons import trap_within


class Witnesses:
    """What speaks against markings of what is known to be a sound workflow."""

    def __init__(self, sound):
        self._steps = closed_steps(sound)
        self._basis = null_basis(effects_of_steps(sound), sound[0])

    def weighting_against(self, marking):
        """Returns a weighting in which the sums of the marking and of the first marking differ, or None."""
        # The sum of the first marking is the weight of the start.
        for weighting in self._basis:
            if product_sum(weighting, marking) != weighting[0]:
                return weighting
        return None

    def trap_against(self, marking):
        """Returns the largest trap of the closed net without a token; () does not speak against the marking."""
        return trap_within(self._steps, tuple([place for place, tokens in enumerate(marking) if tokens == 0]))

    def are_missing(self, marking):
        """Returns whether nothing speaks against the marking, so that it occurs."""
        return self.weighting_against(marking) is None and self.trap_against(marking) == ()


def can_occur(sound, marking):
    """Returns whether the marking of what is known to be a sound workflow is reachable."""
    return Witnesses(sound).are_missing(marking)
