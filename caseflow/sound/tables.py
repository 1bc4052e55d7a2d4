"""Finish tables: each marking has a cluster by which its case can be finished."""

from caseflow.basics import is_integer, is_integer_within
from caseflow.errors import TooMany
from caseflow.nets.clusters import list_clusters
from caseflow.nets.moves import has_tokens, marking_behind
from caseflow.nets.nets import check_workflow
from caseflow.nets.runs import MAX_MET, fits_net, one_token
from caseflow.sound.structure import has_sound_structure


def finish_table(workflow):
    """Returns the finish table of the first order, or None if the workflow is not sound."""
    check_workflow(workflow)
    met = _met_by_first_order(workflow)
    if len(met) > MAX_MET:
        if has_sound_structure(workflow):
            raise TooMany(MAX_MET)
        return None
    numbers = _numbers_to(one_token(workflow, 1), met)
    if len(numbers) < len(met):
        return None
    return {marking: (met[marking][0], numbers[marking]) for marking in sorted(met)}


def is_finish_table(workflow, value):
    """Returns whether the value is a finish table."""
    check_workflow(workflow)
    if not isinstance(value, dict) or not all([fits_net(workflow, key) for key in value]):
        return False
    if one_token(workflow, 0) not in value or one_token(workflow, 1) in value:
        return False
    groups = _steps_of_clusters(workflow)
    if not all([_is_entry(groups, marking, value[marking]) for marking in value]):
        return False
    last = one_token(workflow, 1)
    return all([_is_finished(groups, last, value, marking) for marking in value])


def _steps_of_clusters(workflow):
    """Returns the steps of each cluster, in the order of the clusters."""
    return [[step for step in workflow[1] if step[1] == inputs] for inputs, _ in list_clusters(workflow)]


def _met_by_first_order(workflow):
    """Returns a dict from the markings met, besides the last one, to what is done there.

    This is the number of the first enabled cluster and the markings behind its
    steps; (None, []) where none is enabled. If there are more than MAX_MET
    markings, the dict has only some of them, but more than MAX_MET, too.
    """
    groups = _steps_of_clusters(workflow)
    last = one_token(workflow, 1)
    met = {}
    waiting = [one_token(workflow, 0)]
    while waiting and len(met) <= MAX_MET:
        marking = waiting.pop()
        if marking != last and marking not in met:
            met[marking] = _first_handled(groups, marking)
            waiting.extend(met[marking][1])
    return met


def _first_handled(groups, marking):
    for number, steps in enumerate(groups):
        if has_tokens(marking, steps[0][1]):
            return number, [marking_behind(marking, step) for step in steps]
    return None, []


def _numbers_to(last, met):
    """Returns a dict from markings to the smallest number of steps to the last one.

    Markings from which the last one is not reached are no keys.
    """
    before = {}
    for marking in met:
        for after in met[marking][1]:
            before.setdefault(after, []).append(marking)
    numbers = {}
    number = 0
    level = [last]
    while level:
        number += 1
        nearer = {one: True for after in level for one in before.get(after, []) if one not in numbers}
        for marking in nearer:
            numbers[marking] = number
        level = list(nearer)
    return numbers


def _is_entry(groups, marking, value):
    """Returns whether the value is the number of a cluster enabled there, and one of at least 1."""
    if not isinstance(value, tuple) or len(value) != 2:
        return False
    cluster, number = value
    if not is_integer_within(cluster, 0, len(groups) - 1) or not is_integer(number):
        return False
    return number >= 1 and has_tokens(marking, groups[cluster][0][1])


def _is_finished(groups, last, table, marking):
    """Returns whether the steps at the marking lead into the table, and one of them nearer to the end."""
    cluster, number = table[marking]
    after = [marking_behind(marking, step) for step in groups[cluster]]
    if not all([reached == last or reached in table for reached in after]):
        return False
    return any([reached == last or table[reached][1] < number for reached in after])
