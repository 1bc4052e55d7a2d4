"""Faults: runs behind which a case can never be finished."""

from caseflow.algebra.siphons import siphon_within
from caseflow.nets.nets import are_places, check_workflow
from caseflow.nets.runs import end_of_run, one_token
from caseflow.nets.searches import shortest_run
from caseflow.sound.structure import has_sound_structure


def find_fault(workflow):
    """Returns a fault whose run is as short as possible, or None if the workflow is sound."""
    check_workflow(workflow)
    if has_sound_structure(workflow):
        return None
    sides = [(mask_of(inputs), mask_of(outputs)) for _, inputs, outputs in workflow[1]]

    def is_end(marking):
        return _is_at_fault(sides, marking)

    run = shortest_run(workflow, one_token(workflow, 0), is_end)
    return _fault_at(workflow, run, end_of_run(workflow, run))


def is_fault(workflow, value):
    """Returns whether the value is a fault of the workflow."""
    check_workflow(workflow)
    if not isinstance(value, tuple) or len(value) not in (2, 3):
        return False
    marking = end_of_run(workflow, value[1])
    if marking is None:
        return False
    if len(value) == 2:
        return value[0] == "left" and _is_left(marking)
    return value[0] == "empty" and _is_empty_siphon(workflow, marking, value[2])


def mask_of(places):
    """Returns an integer with a binary digit 1 for each of the places."""
    return sum([1 << place for place in places])


def _is_left(marking):
    return marking[1] > 0 and sum(marking) > marking[1]


def _is_empty_siphon(workflow, marking, value):
    if not are_places(workflow[0], value) or 1 not in value:
        return False
    return siphon_within(workflow[1], value) == value and sum([marking[place] for place in value]) == 0


def _is_at_fault(sides, marking):
    """Returns whether something is left behind the end, or an empty siphon contains the end."""
    if marking[1] > 0:
        return _is_left(marking)
    marked = mask_of([place for place, tokens in enumerate(marking) if tokens > 0])
    return not _comes_to_end(sides, marked)


def _comes_to_end(sides, marked):
    """Returns whether the end would get a token if no step took any away.

    The places that would get none are the largest siphon among the empty ones.
    """
    reached = marked
    before = None
    while reached != before:
        before = reached
        for inputs, outputs in sides:
            if reached & inputs == inputs:
                reached = reached | outputs
    return reached & mask_of((1,)) != 0


def _fault_at(workflow, run, marking):
    if marking[1] > 0:
        return ("left", run)
    empty = tuple([place for place, tokens in enumerate(marking) if tokens == 0])
    return ("empty", run, siphon_within(workflow[1], empty))
