"""What the structure of a workflow tells of its soundness, whatever its size."""

from caseflow.algebra.alternative import positive_or_rising
from caseflow.algebra.closed import closed_steps, effects_at_places, effects_of_steps
from caseflow.algebra.siphons import siphon_within
from caseflow.algebra.weightings import rank_of_effects
from caseflow.errors import NotSound
from caseflow.nets.clusters import list_clusters
from caseflow.nets.nets import check_workflow


def check_sound(sound):
    """Raises InvalidWorkflow if the value is not a workflow, and NotSound if it is not sound."""
    check_workflow(sound)
    paper = find_paper(sound)
    if paper[0] != "sound":
        raise NotSound(paper)


def has_sound_structure(workflow):
    """Returns whether what is known to be a workflow is sound."""
    return find_paper(workflow)[0] == "sound"


def find_paper(workflow):
    """Returns a structure paper of what is known to be a workflow."""
    # What is found most quickly comes first.
    places = siphon_behind_start(workflow)
    if places != ():
        return ("siphon", places)
    rank = rank_of_effects(workflow)
    number = len(list_clusters(workflow))
    if rank != number:
        return ("rank", rank, number)
    weighting, growing = positive_or_rising(effects_of_steps(workflow))
    if weighting is None:
        return ("growth", growing)
    counts, rising = positive_or_rising(effects_at_places(workflow))
    if counts is None:
        return ("rise", rising)
    return ("sound", weighting, counts)


def siphon_behind_start(workflow):
    """Returns the largest siphon of the closed net without place 0."""
    return siphon_within(closed_steps(workflow), tuple(range(1, workflow[0])))
