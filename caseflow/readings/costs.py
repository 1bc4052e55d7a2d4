"""How many complete cases have a cost, and the chances of the costs."""

from caseflow.basics import is_integer_within
from caseflow.errors import InvalidNumber
from caseflow.nets.runs import one_token
from caseflow.readings.given import chances_given, costs_given
from caseflow.readings.levels import chances_by_cost
from caseflow.readings.limits import check_loops
from caseflow.readings.ways import cost_of_run, is_loop_of_run, names_at, way_between
from caseflow.sound.handling import Graph, graph_by_order
from caseflow.sound.loops import components
from caseflow.sound.structure import check_sound

MAX_COST = 1000


def count_of_cost(sound, cost, *, costs=None):
    """Returns the number of complete cases with this cost, or None if there are infinitely many."""
    check_sound(sound)
    _check_cost(cost)
    prices = costs_given(sound, costs)
    graph = graph_by_order(sound, None)
    return _rows_by_cost(sound, graph, prices, cost)[cost][0]


def free_loop(sound, cost, *, costs=None):
    """Returns a free loop for the cost, or None if there is none."""
    check_sound(sound)
    _check_cost(cost)
    prices = costs_given(sound, costs)
    graph = graph_by_order(sound, None)
    rows = _rows_by_cost(sound, graph, prices, cost)
    if rows[cost][0] is not None:
        return None
    before, state, left = _way_to_free_loop(graph, prices, rows, cost)
    loop = _loop_at(graph, prices, state)
    after = _way_with_cost(sound, graph, prices, rows, state, left)
    return (names_at(sound, before), names_at(sound, loop), names_at(sound, after))


def is_free_loop(sound, cost, value, *, costs=None):
    """Returns whether the value is a free loop for the cost."""
    check_sound(sound)
    _check_cost(cost)
    prices = costs_given(sound, costs)
    if not isinstance(value, tuple) or len(value) != 3:
        return False
    before, loop, after = value
    if not is_loop_of_run(sound, before, loop, after) or loop == ():
        return False
    return cost_of_run(sound, prices, loop) == 0 and cost_of_run(sound, prices, before + after) == cost


def chances_of_costs(sound, limit, *, chances=None, costs=None):
    """Returns the chances that a complete case costs 0, 1, and so on up to the limit."""
    check_sound(sound)
    _check_cost(limit)
    fractions = chances_given(sound, chances)
    prices = costs_given(sound, costs)
    graph = graph_by_order(sound, None)
    check_loops(graph)
    return chances_by_cost(graph, graph.number_of(one_token(sound, 1)), fractions, prices, limit)


def _check_cost(cost):
    if not is_integer_within(cost, 0, MAX_COST):
        raise InvalidNumber(cost)


def _free_states_behind(graph, prices):
    """Returns for each state the states to which moves without costs lead."""
    return [[after for at, after in moves if prices[at] == 0] for moves in graph.moves]


def _rows_by_cost(sound, graph, prices, most):
    """Returns rows, one for each cost up to this one.

    A row has for each state the number of ways from it to the end with this
    cost; None stands for infinitely many.
    """
    behind = _free_states_behind(graph, prices)
    groups = components(behind)
    end = graph.number_of(one_token(sound, 1))
    rows = []
    for cost in range(most + 1):
        rows.append([0 for _ in graph.states])
        for group in groups:
            if _is_free_loop_among(behind, group):
                _fill_loop(graph, prices, rows, group)
            elif group == [end]:
                rows[cost][end] = int(cost == 0)
            else:
                rows[cost][group[0]] = _sum_of_ways(_ways_behind(graph, prices, rows, group[0]))
    return rows


def _is_free_loop_among(behind, group):
    return len(group) > 1 or group[0] in behind[group[0]]


def _ways_behind(graph, prices, rows, state):
    """Returns for each move at the state the number of ways behind it, as the last row needs it."""
    cost = len(rows) - 1
    return [rows[cost - prices[at]][after] for at, after in graph.moves[state] if prices[at] <= cost]


def _sum_of_ways(ways):
    return None if None in ways else sum(ways)


def _fill_loop(graph, prices, rows, group):
    """Puts the numbers of the states of a loop without costs into the last row."""
    # In the row the states of the loop still have 0, so only the ways that leave it count.
    if any([_sum_of_ways(_ways_behind(graph, prices, rows, state)) != 0 for state in group]):
        for state in group:
            rows[len(rows) - 1][state] = None


def _way_to_free_loop(graph, prices, rows, cost):
    """Returns a way to a loop without costs, the state there and the cost that is left."""
    behind = _free_states_behind(graph, prices)
    looping = {state: True for group in components(behind) if _is_free_loop_among(behind, group) for state in group}
    way = ()
    state = 0
    left = cost
    while state not in looping:
        moves = [move for move in graph.moves[state] if prices[move[0]] <= left]
        at, after = [move for move in moves if rows[left - prices[move[0]]][move[1]] is None][0]
        way = way + (at,)
        state = after
        left -= prices[at]
    return way, state, left


def _loop_at(graph, prices, state):
    """Returns what is done on a loop without costs from the state back to it."""
    free = [[(at, after) for at, after in moves if prices[at] == 0] for moves in graph.moves]
    group = [states for states in components(_free_states_behind(graph, prices)) if state in states][0]
    at, after = [move for move in free[state] if move[1] in group][0]
    return (at,) + way_between(free, after, state)


def _way_with_cost(sound, graph, prices, rows, begin, cost):
    """Returns a way with this cost from the state to the end."""
    pairs = Graph((begin, cost))
    pair = pairs.next_open()
    while pair is not None:
        state, left = pair
        moves = []
        for at, after in graph.moves[state]:
            if prices[at] <= left and rows[left - prices[at]][after] != 0:
                moves.append((at, pairs.number_of((after, left - prices[at]))))
        pairs.extend_by(None, moves)
        pair = pairs.next_open()
    return way_between(pairs.moves, 0, pairs.number_of((graph.number_of(one_token(sound, 1)), 0)))
