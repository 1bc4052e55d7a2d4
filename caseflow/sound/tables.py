"""Finish tables: each marking has a cluster by which its case can be finished."""

from caseflow.basics import is_integer
from caseflow.nets.nets import check_workflow
from caseflow.nets.runs import one_token
from caseflow.sound.handling import graph_by_order, steps_to_end
from caseflow.sound.plans import moves_of_table
from caseflow.sound.structure import has_sound_structure


def finish_table(workflow):
    """Returns the finish table of the first order, or None if the workflow is not sound."""
    check_workflow(workflow)
    if not has_sound_structure(workflow):
        return None
    graph = graph_by_order(workflow, None)
    last = one_token(workflow, 1)
    numbers = steps_to_end(graph, graph.number_of(last))
    table = {}
    for marking in sorted(graph.states):
        if marking != last:
            at = graph.number_of(marking)
            table[marking] = (graph.handled[at], numbers[at])
    return table


def is_finish_table(workflow, value):
    """Returns whether the value is a finish table."""
    check_workflow(workflow)
    moves = moves_of_table(workflow, value)
    if moves is None:
        return False
    numbers = {key: value[key][1] for key in value}
    if not all([is_integer(numbers[key]) and numbers[key] >= 1 for key in numbers]):
        return False
    # The last marking is no key, and nearer to the end than all keys.
    return all([min([numbers.get(after, 0) for _, after in moves[key]]) < numbers[key] for key in moves])
