"""Soundness, and the structure papers that show it or refute it."""

from caseflow.algebra.siphons import is_siphon
from caseflow.algebra.weightings import (
    are_counts, are_growing_counts, are_rising_weights, is_weighting, rank_of_effects,
)
from caseflow.basics import are_integers
from caseflow.nets.clusters import list_clusters
from caseflow.nets.nets import check_workflow
from caseflow.sound.structure import find_paper, has_sound_structure, siphon_behind_start


def is_sound(workflow):
    """Returns whether the workflow is sound."""
    check_workflow(workflow)
    return has_sound_structure(workflow)


def structure_paper(workflow):
    """Returns a structure paper of the workflow."""
    check_workflow(workflow)
    return find_paper(workflow)


def is_structure_paper(workflow, value):
    """Returns whether the value is a structure paper of the workflow."""
    check_workflow(workflow)
    if not isinstance(value, tuple) or len(value) not in (2, 3):
        return False
    if len(value) == 2:
        return _speaks_against(workflow, value[0], value[1])
    if value[0] == "sound":
        return _shows_sound(workflow, value[1], value[2])
    return value[0] == "rank" and _is_rank_and_number(workflow, value[1:])


def _speaks_against(workflow, kind, content):
    if kind == "growth":
        return are_growing_counts(workflow, content)
    if kind == "rise":
        return are_rising_weights(workflow, content)
    if kind != "siphon" or not is_siphon(workflow, content, closed=True):
        return False
    return content != () and 0 not in content


def _is_rank_and_number(workflow, value):
    expected = (rank_of_effects(workflow), len(list_clusters(workflow)))
    return are_integers(value) and value == expected and value[0] != value[1]


def _shows_sound(workflow, weighting, counts):
    if not is_weighting(workflow, weighting) or not are_counts(workflow, counts):
        return False
    if min(weighting) < 1 or min(counts) < 1:
        return False
    return rank_of_effects(workflow) == len(list_clusters(workflow)) and siphon_behind_start(workflow) == ()
