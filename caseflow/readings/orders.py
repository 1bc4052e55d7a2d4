"""Orders of work and plans, and sums over all complete cases that are found by them."""

from caseflow.basics import is_integer, is_integer_within
from caseflow.cases.choices import run_by_order, run_by_plan
from caseflow.errors import InvalidNumber, InvalidPlan
from caseflow.nets.clusters import list_clusters
from caseflow.nets.nets import have_common
from caseflow.nets.runs import check_complete, one_token
from caseflow.readings.given import check_order, is_order_of
from caseflow.sound.handling import graph_by_order
from caseflow.sound.loops import states_in_postorder, states_on_loops
from caseflow.sound.plans import is_table_for, moves_of_plan
from caseflow.sound.structure import check_sound

MAX_WEIGHT = 10 ** 9


def is_order(sound, value):
    """Returns whether the value is an order of the workflow."""
    check_sound(sound)
    return is_order_of(sound, value)


def is_closed_plan(sound, value):
    """Returns whether the value is a closed plan of the workflow."""
    check_sound(sound)
    return moves_of_plan(sound, value) is not None


def order_plan(sound, *, order=None):
    """Returns the closed plan with exactly the markings that are met by the order."""
    check_sound(sound)
    check_order(sound, order)
    return plan_of_graph(sound, graph_by_order(sound, order))


def ordered_run(sound, complete, *, order=None):
    """Returns the run of the case that is done by the order."""
    check_sound(sound)
    check_complete(sound, complete)
    check_order(sound, order)
    return run_by_order(sound, complete, tuple(range(len(list_clusters(sound)))) if order is None else order)


def planned_run(sound, complete, plan):
    """Returns the run of the case that follows the closed plan."""
    check_sound(sound)
    check_complete(sound, complete)
    if moves_of_plan(sound, plan) is None:
        raise InvalidPlan("not a closed plan of the workflow")
    return run_by_plan(sound, complete, plan)


def weight_sum(sound, weights, *, order=None):
    """Returns the sum, over all complete cases, of the products of weights, or None without a longest case."""
    check_sound(sound)
    _check_weights(sound, weights)
    check_order(sound, order)
    if _has_cycle(sound):
        return None
    graph = graph_by_order(sound, order)
    last = one_token(sound, 1)
    sums = [int(marking == last) for marking in graph.states]
    for state in states_in_postorder(graph.states_behind()):
        if graph.moves[state] != []:
            sums[state] = sum([weights[at] * sums[after] for at, after in graph.moves[state]])
    return sums[0]


def is_weight_table(sound, weights, value):
    """Returns whether the value is a pair of a closed plan and a weight table for it."""
    check_sound(sound)
    _check_weights(sound, weights)
    if not isinstance(value, tuple) or len(value) != 2:
        return False
    plan, table = value
    moves = moves_of_plan(sound, plan)
    if moves is None or not is_table_for(sound, plan, table):
        return False
    if not all([is_integer(table[key]) for key in table]) or table[one_token(sound, 1)] != 1:
        return False
    return all([table[key] == sum([weights[at] * table[after] for at, after in moves[key]]) for key in moves])


def plan_of_graph(sound, graph):
    """Returns the closed plan with the markings of the graph."""
    last = one_token(sound, 1)
    plan = {}
    for marking in sorted(graph.states):
        if marking != last:
            plan[marking] = graph.handled[graph.number_of(marking)]
    return plan


def _check_weights(sound, weights):
    if not isinstance(weights, tuple) or len(weights) != len(sound[1]):
        raise InvalidNumber(weights)
    if not all([is_integer_within(weight, -MAX_WEIGHT, MAX_WEIGHT) for weight in weights]):
        raise InvalidNumber(weights)


def _has_cycle(sound):
    """Returns whether the net has a directed cycle of places and steps."""
    # It has one exactly if a step leads by a place to a step, and so on, back to itself.
    steps = sound[1]
    behind = [[at for at, other in enumerate(steps) if have_common(step[2], other[1])] for step in steps]
    return states_on_loops(behind) != []
