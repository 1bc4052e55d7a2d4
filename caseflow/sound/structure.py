"""What the structure of a workflow tells of its soundness, whatever its size."""

from caseflow.algebra.alternative import positive_or_rising
from caseflow.algebra.closed import closed_steps, effects_at_places, effects_of_steps
from caseflow.algebra.siphons import siphon_within
from caseflow.algebra.weightings import rank_of_effects
from caseflow.nets.clusters import list_clusters


def has_sound_structure(workflow):
    """Returns whether the structure of what is known to be a workflow is that of a sound one."""
    behind_start = tuple(range(1, workflow[0]))
    if siphon_within(closed_steps(workflow), behind_start) != ():
        return False
    if rank_of_effects(workflow) != len(list_clusters(workflow)):
        return False
    if positive_or_rising(effects_of_steps(workflow))[0] is None:
        return False
    return positive_or_rising(effects_at_places(workflow))[0] is not None
