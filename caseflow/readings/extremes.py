"""The least and the greatest cost of a complete case, and papers that show them."""

from caseflow.basics import is_integer
from caseflow.nets.runs import end_of_run, one_token
from caseflow.readings.given import costs_given
from caseflow.readings.routes import costly_loop, greatest_route, least_route
from caseflow.readings.ways import cost_of_run, is_loop_of_run, names_at, way_between
from caseflow.sound.handling import graph_by_order
from caseflow.sound.loops import components
from caseflow.sound.plans import moves_of_table
from caseflow.sound.structure import check_sound


def least_paper(sound, *, costs=None):
    """Returns a least paper: the least cost, a run with this cost, and a lower table."""
    check_sound(sound)
    prices = costs_given(sound, costs)
    graph = graph_by_order(sound, None)
    end = graph.number_of(one_token(sound, 1))
    numbers, positions = least_route(graph, prices, end)
    return (numbers[0], names_at(sound, positions), _bound_table(graph, numbers, end))


def is_least_paper(sound, value, *, costs=None):
    """Returns whether the value is a least paper."""
    check_sound(sound)
    prices = costs_given(sound, costs)
    if not isinstance(value, tuple) or len(value) != 3:
        return False
    cost, run, table = value
    return _is_cost_of_run(sound, prices, cost, run) and _is_bound(sound, prices, cost, table, 1)


def greatest_paper(sound, *, costs=None):
    """Returns a greatest paper: the greatest cost, a run with this cost and an upper table, or a loop that costs."""
    check_sound(sound)
    prices = costs_given(sound, costs)
    graph = graph_by_order(sound, None)
    end = graph.number_of(one_token(sound, 1))
    groups = components(graph.states_behind())
    loop = costly_loop(graph, prices, groups)
    if loop is not None:
        return _unbounded_paper(sound, graph, end, loop[0], loop[1])
    numbers, positions = greatest_route(graph, prices, groups, end)
    return ("greatest", numbers[0], names_at(sound, positions), _bound_table(graph, numbers, end))


def is_greatest_paper(sound, value, *, costs=None):
    """Returns whether the value is a greatest paper."""
    check_sound(sound)
    prices = costs_given(sound, costs)
    if not isinstance(value, tuple) or len(value) != 4:
        return False
    kind, first, second, third = value
    if kind == "unbounded":
        return is_loop_of_run(sound, first, second, third) and cost_of_run(sound, prices, second) >= 1
    if kind != "greatest" or not _is_cost_of_run(sound, prices, first, second):
        return False
    return _is_bound(sound, prices, first, third, -1)


def _unbounded_paper(sound, graph, end, state, move):
    before = way_between(graph.moves, 0, state)
    loop = (move[0],) + way_between(graph.moves, move[1], state)
    after = way_between(graph.moves, state, end)
    return ("unbounded", names_at(sound, before), names_at(sound, loop), names_at(sound, after))


def _bound_table(graph, numbers, end):
    """Returns the dict from the markings to what is handled there and the number of the state."""
    table = {}
    for marking in sorted(graph.states):
        state = graph.number_of(marking)
        if state != end:
            table[marking] = (graph.handled[state], numbers[state])
    return table


def _is_cost_of_run(sound, prices, cost, run):
    if not is_integer(cost) or end_of_run(sound, run) != one_token(sound, 1):
        return False
    return cost_of_run(sound, prices, run) == cost


def _is_bound(sound, prices, cost, table, sign):
    """Returns whether the value is a lower table (sign 1) or an upper table (sign -1) with this cost at first."""
    moves = moves_of_table(sound, table)
    if moves is None:
        return False
    numbers = {key: table[key][1] for key in table}
    if not all([is_integer(numbers[key]) for key in numbers]) or numbers[one_token(sound, 0)] != cost:
        return False
    # The last marking is no key and has the number 0.
    numbers[one_token(sound, 1)] = 0
    return all([_keeps_bound(prices, numbers, numbers[key], moves[key], sign) for key in moves])


def _keeps_bound(prices, numbers, number, moves, sign):
    return all([sign * (prices[at] + numbers[after] - number) >= 0 for at, after in moves])
