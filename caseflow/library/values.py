"""The values of full cases, computed entry by entry without writing the uses out.

The entries stand behind those that they use.
"""

from caseflow.nets.runs import one_token
from caseflow.readings.averages import mean_counts, place_values, squared_surprises
from caseflow.readings.given import chances_given, costs_given
from caseflow.readings.ratios import ONE, ZERO, product_of, sum_of, whole
from caseflow.readings.routes import costly_loop, greatest_route, least_route
from caseflow.sound.handling import graph_by_order
from caseflow.sound.loops import components


def mean_costs(entries):
    """Returns for each entry the mean cost of a full case, by names."""
    means = {}
    for entry in entries:
        means[entry[0]] = place_values(entry[1], chances_given(entry[1], entry[2]), _mean_prices(entry, means))[0]
    return means


def cost_variances(entries):
    """Returns for each entry the variance of the cost of a full case, by names."""
    means = mean_costs(entries)
    variances = {}
    for entry in entries:
        chances = chances_given(entry[1], entry[2])
        surprises = squared_surprises(entry[1], chances, _mean_prices(entry, means))
        # The cases of a use are independent, so each occurrence of its step adds their variances.
        spread = _with_uses(entry, list(surprises), variances)
        variances[entry[0]] = place_values(entry[1], chances, spread)[0]
    return variances


def mean_numbers(entries, name):
    """Returns the mean numbers of occurrences in a full case, by pairs of an entry and a step, ascending."""
    cases = {name: ONE}
    counts = {}
    # The users come first, so it is known of each entry how many of its cases a full case has.
    for entry in reversed(entries):
        means = mean_counts(entry[1], chances_given(entry[1], entry[2]))
        for step, mean in zip(entry[1][1], means):
            counts[(entry[0], step[0])] = product_of(cases[entry[0]], mean)
        for step, used, times in entry[4]:
            more = product_of(counts[(entry[0], step)], whole(times))
            cases[used] = sum_of([cases.get(used, ZERO), more])
    return {pair: counts[pair] for pair in sorted(counts)}


def least_costs(entries):
    """Returns for each entry the least cost of a full case, by names."""
    least = {}
    for entry in entries:
        graph = graph_by_order(entry[1], None)
        prices = _prices(entry, least)
        least[entry[0]] = least_route(graph, prices, graph.number_of(one_token(entry[1], 1)))[0][0]
    return least


def greatest_costs(entries):
    """Returns for each entry the greatest cost of a full case, by names; None if there is none."""
    greatest = {}
    for entry in entries:
        greatest[entry[0]] = _greatest_cost(entry, greatest)
    return greatest


def _greatest_cost(entry, greatest):
    if None in [greatest[use[1]] for use in entry[4]]:
        return None
    graph = graph_by_order(entry[1], None)
    prices = _prices(entry, greatest)
    groups = components(graph.states_behind())
    if costly_loop(graph, prices, groups) is not None:
        return None
    return greatest_route(graph, prices, groups, graph.number_of(one_token(entry[1], 1)))[0][0]


def _mean_prices(entry, means):
    """Returns for each step its mean cost with that of the cases for which it stands."""
    return _with_uses(entry, [whole(cost) for cost in costs_given(entry[1], entry[3])], means)


def _with_uses(entry, fractions, values):
    """Returns the fractions of the steps, each with the values of the cases for which the step stands."""
    used = {use[0]: product_of(values[use[1]], whole(use[2])) for use in entry[4]}
    return [sum_of([part, used.get(step[0], ZERO)]) for part, step in zip(fractions, entry[1][1])]


def _prices(entry, values):
    """Returns for each step its cost with that of the cases for which it stands, which are integers."""
    used = {use[0]: values[use[1]] * use[2] for use in entry[4]}
    costs = costs_given(entry[1], entry[3])
    return [cost + used.get(step[0], 0) for cost, step in zip(costs, entry[1][1])]
