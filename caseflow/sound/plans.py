"""Dicts from markings to clusters, as plans and several kinds of tables contain them."""

from caseflow.basics import is_integer_within
from caseflow.nets.moves import has_tokens, marking_behind
from caseflow.nets.runs import fits_net, one_token
from caseflow.sound.handling import groups_of_steps


def moves_of_plan(workflow, value):
    """Returns a dict from the keys of a closed plan to the moves there, or None if the value is none.

    A move is a pair of the position of a step and the marking behind it.
    """
    if not isinstance(value, dict) or not all([fits_net(workflow, key) for key in value]):
        return None
    if one_token(workflow, 0) not in value or one_token(workflow, 1) in value:
        return None
    groups = groups_of_steps(workflow)
    moves = {}
    for marking in value:
        if not _is_enabled(groups, value[marking], marking):
            return None
        steps = groups[value[marking]][2]
        moves[marking] = [(at, marking_behind(marking, step)) for at, step in steps]
    behind = [after for marking in moves for _, after in moves[marking]]
    last = one_token(workflow, 1)
    return moves if all([after == last or after in moves for after in behind]) else None


def moves_of_table(workflow, value):
    """Returns the same of a dict whose values are pairs of a cluster and something else."""
    if not isinstance(value, dict) or not all([_is_pair(value[key]) for key in value]):
        return None
    return moves_of_plan(workflow, {key: value[key][0] for key in value})


def is_table_for(workflow, plan, value):
    """Returns whether the value is a dict whose keys are those of the closed plan and the last marking."""
    if not isinstance(value, dict) or len(value) != len(plan) + 1:
        return False
    last = one_token(workflow, 1)
    return all([fits_net(workflow, key) and (key in plan or key == last) for key in value])


def _is_pair(value):
    return isinstance(value, tuple) and len(value) == 2


def _is_enabled(groups, cluster, marking):
    return is_integer_within(cluster, 0, len(groups) - 1) and has_tokens(marking, groups[cluster][1])
