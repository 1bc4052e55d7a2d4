"""Whether a marking occurs, told from weightings and traps."""

from caseflow.algebra.closed import closed_steps, effects_of_steps
from caseflow.algebra.rows import null_basis, product_sum
from caseflow.algebra.siphons import trap_within


def can_occur(sound, marking):
    """Returns whether the marking of what is known to be a sound workflow is reachable."""
    empty = tuple([place for place, tokens in enumerate(marking) if tokens == 0])
    if trap_within(closed_steps(sound), empty) != ():
        return False
    # The sum of the first marking is the weight of the start.
    basis = null_basis(effects_of_steps(sound), sound[0])
    return all([product_sum(weighting, marking) == weighting[0] for weighting in basis])
