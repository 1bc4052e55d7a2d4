"""Chances and mean costs of complete cases; they do not depend on an order of work."""

from caseflow.algebra.occurring import can_occur
from caseflow.basics import is_fraction, is_integer_within
from caseflow.errors import InvalidChances, InvalidCosts, InvalidNumber, UnknownStep
from caseflow.nets.nets import check_workflow
from caseflow.nets.runs import check_marking, one_token
from caseflow.readings.averages import as_fractions, mean_counts, place_values, squared_surprises, value_at
from caseflow.readings.ends import parts_at_ends
from caseflow.readings.given import MAX_PART, are_chances, chances_given, costs_given, is_cost
from caseflow.readings.limits import check_loops, graph_for_chances
from caseflow.readings.orders import plan_of_graph
from caseflow.readings.passing import graph_of_pairs, mean_number_of_ways
from caseflow.readings.ratios import ZERO, product_of, ratio, sum_of
from caseflow.sound.plans import is_table_for, moves_of_plan
from caseflow.sound.structure import check_sound


def costs_of(workflow, *, default=1, **costs):
    """Returns costs of the workflow: the named ones, and `default` for every other step."""
    check_workflow(workflow)
    if not is_cost(default):
        raise InvalidNumber(default)
    _check_names(workflow, sorted(costs))
    if not all([is_cost(costs[name]) for name in costs]):
        raise InvalidCosts("a cost of a step is an integer from 0 to 10 ** 9")
    return tuple([costs.get(step[0], default) for step in workflow[1]])


def chances_of(workflow, **weights):
    """Returns the chances of the steps by their weights, which are 1 if they are not named."""
    check_workflow(workflow)
    _check_names(workflow, sorted(weights))
    if not all([is_integer_within(weights[name], 1, MAX_PART) for name in weights]):
        raise InvalidChances("a weight of a step is an integer from 1 to 10 ** 6")
    totals = {}
    for name, inputs, _ in workflow[1]:
        totals[inputs] = totals.get(inputs, 0) + weights.get(name, 1)
    chances = tuple([ratio(weights.get(step[0], 1), totals[step[1]]) for step in workflow[1]])
    if not are_chances(workflow, chances):
        raise InvalidChances("a denominator is greater than 10 ** 6")
    return chances


def expected_cost(sound, *, chances=None, costs=None):
    """Returns the mean of the cost of a complete case."""
    check_sound(sound)
    fractions, prices = _given(sound, chances, costs)
    graph_for_chances(sound)
    return place_values(sound, fractions, prices)[0]


def cost_variance(sound, *, chances=None, costs=None):
    """Returns the mean of the squared difference of the cost of a complete case from its mean."""
    check_sound(sound)
    fractions, prices = _given(sound, chances, costs)
    graph_for_chances(sound)
    return place_values(sound, fractions, squared_surprises(sound, fractions, prices))[0]


def value_table(sound, *, chances=None, costs=None):
    """Returns the closed plan of the first order and the expected costs from its markings."""
    check_sound(sound)
    fractions, prices = _given(sound, chances, costs)
    graph = graph_for_chances(sound)
    values = place_values(sound, fractions, prices)
    table = {}
    for marking in sorted(graph.states):
        table[marking] = value_at(values, marking)
    return (plan_of_graph(sound, graph), table)


def is_value_table(sound, value, *, chances=None, costs=None):
    """Returns whether the value is a pair of a closed plan and the expected costs from its markings."""
    check_sound(sound)
    fractions, prices = _given(sound, chances, costs)
    if not isinstance(value, tuple) or len(value) != 2:
        return False
    plan, table = value
    moves = moves_of_plan(sound, plan)
    if moves is None or not is_table_for(sound, plan, table) or not all([is_fraction(table[key]) for key in table]):
        return False
    for key in moves:
        expected = [product_of(fractions[at], sum_of([prices[at], table[after]])) for at, after in moves[key]]
        if table[key] != sum_of(expected):
            return False
    return table[one_token(sound, 1)] == ZERO


def expected_counts(sound, *, chances=None):
    """Returns the mean number of occurrences of each step in a complete case."""
    check_sound(sound)
    fractions = chances_given(sound, chances)
    graph_for_chances(sound)
    return mean_counts(sound, fractions)


def avoid_chance(sound, names, *, chances=None):
    """Returns the chance that a complete case contains none of the named steps."""
    check_sound(sound)
    avoided = _positions_of(sound, names)
    fractions = chances_given(sound, chances)
    graph = graph_for_chances(sound)
    end = graph.number_of(one_token(sound, 1))
    rows = {}
    for state, moves in enumerate(graph.moves):
        parts = {}
        for at, after in moves:
            if at not in avoided:
                parts[after] = sum_of([parts.get(after, ZERO), fractions[at]])
        if state != end:
            rows[state] = parts
    solved = parts_at_ends(rows)
    # The last marking is the only end.
    return ratio(solved[0][1][end], solved[0][0]) if 0 in solved else ZERO


def pass_chance(sound, marking, *, chances=None):
    """Returns the chance that a complete case passes the marking."""
    check_sound(sound)
    check_marking(sound, marking)
    fractions = chances_given(sound, chances)
    graph_for_chances(sound)
    if not can_occur(sound, marking):
        return ZERO
    to_it = graph_of_pairs(sound, one_token(sound, 0), marking)
    back_to_it = graph_of_pairs(sound, marking, marking)
    check_loops(to_it)
    check_loops(back_to_it)
    ways_to_it = mean_number_of_ways(to_it, fractions, marking)
    ways_back = mean_number_of_ways(back_to_it, fractions, marking)
    return product_of(ways_to_it, (ways_back[1], ways_back[0]))


def _given(sound, chances, costs):
    return chances_given(sound, chances), as_fractions(costs_given(sound, costs))


def _check_names(workflow, names):
    """Raises UnknownStep with the first of the names that is not the name of a step."""
    known = [step[0] for step in workflow[1]]
    for name in names:
        if name not in known:
            raise UnknownStep(name)


def _positions_of(sound, names):
    """Returns the positions of the named steps, or raises UnknownStep."""
    if not isinstance(names, tuple):
        raise UnknownStep(names)
    _check_names(sound, names)
    positions = {step[0]: at for at, step in enumerate(sound[1])}
    return [positions[name] for name in names]
