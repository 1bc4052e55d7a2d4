"""Workflows that are built from terms are taken apart again.

What is left of a workflow are arcs, triples of inputs, outputs and a normal tree.
At first each step is an arc. An edge is an arc with one input and one output, and
only edges get trees that are more than a step.
"""

from caseflow.terms.trees import CHOICE, DO, LOOP, MOST_PARTS, PARALLEL, SEQUENCE, depth_of_tree, normal_tree


def tree_of_workflow(workflow, most_depth):
    """Returns the normal tree whose workflow this is, but for the numbers of the places, or None."""
    arcs = [(inputs, outputs, (DO, (name,), ())) for name, inputs, outputs in workflow[1]]
    found = _find_edge(arcs)
    while found is not None:
        used, edge = found
        arcs = [arc for arc in arcs if arc not in used] + [edge]
        found = _find_edge(arcs)
    inputs, outputs, tree = arcs[0]
    if len(arcs) > 1 or inputs != (0,) or outputs != (1,) or depth_of_tree(tree) > most_depth:
        return None
    return tree


def _find_edge(arcs):
    """Returns arcs that are one term together, and the edge that stands for them, or None."""
    for arc in arcs:
        found = None
        if _are_edges([arc]):
            found = _find_choice(arcs, arc)
            if found is None:
                found = _find_sequence(arcs, arc)
            if found is None:
                found = _find_loop(arcs, arc)
        elif len(arc[0]) == 1:
            found = _find_parallel(arcs, arc)
        if found is not None:
            return found
    return None


def _find_choice(arcs, one):
    """Returns the edges with the same ends as this one, and their choice."""
    used = [arc for arc in arcs if arc[:2] == one[:2]]
    if len(used) < 2:
        return None
    return used, (one[0], one[1], normal_tree((CHOICE, (), tuple([arc[2] for arc in used]))))


def _find_sequence(arcs, one):
    """Returns the edge and the next one, if there is nothing else at the place between them."""
    into, behind = _arcs_at(arcs, one[1][0])
    if len(into) != 1 or len(behind) != 1 or behind == [one] or not _are_edges(behind):
        return None
    other = behind[0]
    return [one, other], (one[0], other[1], _sequence_of([one[2], other[2]]))


def _find_loop(arcs, body):
    """Returns the edges of the loop with this body."""
    entering, from_begin = _arcs_at(arcs, body[0][0])
    to_end, leaving = _arcs_at(arcs, body[1][0])
    if from_begin != [body] or to_end != [body] or not _are_edges(entering + leaving):
        return None
    again = [arc for arc in leaving if arc in entering]
    enter = [arc for arc in entering if arc not in again]
    leave = [arc for arc in leaving if arc not in again]
    if [len(again), len(enter), len(leave)] != [1, 1, 1]:
        return None
    # What comes before enter and behind leave can already be put together with them.
    before = _items(enter[0][2])
    behind = _items(leave[0][2])
    steps = [before[-1], again[0][2], behind[0]]
    if [step[0] for step in steps] != [DO, DO, DO]:
        return None
    loop = (LOOP, tuple([step[1][0] for step in steps]), (body[2],))
    tree = _sequence_of(before[:-1] + [loop] + behind[1:])
    return [body, again[0], enter[0], leave[0]], (enter[0][0], leave[0][1], tree)


def _find_parallel(arcs, fork):
    """Returns the arcs of the parallel branches behind this fork."""
    branches = []
    joins = []
    for place in fork[1]:
        into, behind = _arcs_at(arcs, place)
        if into != [fork] or len(behind) != 1 or not _are_edges(behind):
            return None
        before_join, after = _arcs_at(arcs, behind[0][1][0])
        if before_join != behind or len(after) != 1:
            return None
        branches.append(behind[0])
        joins.append(after[0])
    join = joins[0]
    ends = tuple(sorted([branch[1][0] for branch in branches]))
    if join[0] != ends or len(join[1]) > 1 or len(branches) > MOST_PARTS:
        return None
    names = (fork[2][1][0], join[2][1][0])
    tree = normal_tree((PARALLEL, names, tuple([branch[2] for branch in branches])))
    return [fork, join] + branches, (fork[0], join[1], tree)


def _are_edges(arcs):
    return all([len(arc[0]) == 1 and len(arc[1]) == 1 for arc in arcs])


def _arcs_at(arcs, place):
    """Returns the arcs that have the place as an output, and those that have it as an input."""
    return [arc for arc in arcs if place in arc[1]], [arc for arc in arcs if place in arc[0]]


def _items(tree):
    """Returns the parts of a sequence, or the tree itself as the only one."""
    return list(tree[2]) if tree[0] == SEQUENCE else [tree]


def _sequence_of(trees):
    """Returns the normal tree of normal trees one after another."""
    return trees[0] if len(trees) == 1 else normal_tree((SEQUENCE, (), tuple(trees)))
