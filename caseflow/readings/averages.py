"""Mean values of complete cases, found from the places and the clusters alone.

In a sound workflow the mean cost from a marking to the end is the sum, over its
tokens, of values of their places. These are found from one equation for each
cluster: on the average its steps cost as much as they lower the values. The
place 1 has the value 0. Likewise the mean numbers of occurrences are found from
one equation for each place. So the markings do not have to be looked at.
"""

from caseflow.algebra.rows import pivot_rows
from caseflow.readings.ratios import ZERO, common_denominator, product_of, ratio, sum_of, whole
from caseflow.sound.handling import groups_of_steps


def place_values(sound, chances, costs):
    """Returns a fraction for each place; the costs of the steps are fractions, too."""
    places = sound[0]
    # Only the last column has the costs in it, so that long ones do not make all entries long.
    below = common_denominator(list(costs))
    rows = []
    for _, inputs, steps in groups_of_steps(sound):
        shared = common_denominator([chances[at] for at, _ in steps])
        row = [0] * (places + 1)
        for place in inputs:
            row[place] += shared
        for at, step in steps:
            part = shared // chances[at][1] * chances[at][0]
            row[places] += part * costs[at][0] * (below // costs[at][1])
            for place in step[2]:
                row[place] -= part
        rows.append(row)
    # There can be several such values of places; those of the free ones are taken as 0.
    found = pivot_rows(rows, [place for place in range(places) if place != 1])
    return tuple([product_of(_solution_at(found, place), (1, below)) for place in range(places)])


def mean_counts(sound, chances):
    """Returns the mean number of occurrences of each step in a complete case."""
    groups = groups_of_steps(sound)
    clusters = {inputs: number for number, inputs, _ in groups}
    shared = common_denominator(list(chances))
    rows = [[0] * (len(groups) + 1) for _ in range(sound[0])]
    for number, inputs, steps in groups:
        for place in inputs:
            rows[place][number] += shared
        for at, step in steps:
            for place in step[2]:
                rows[place][number] -= shared // chances[at][1] * chances[at][0]
    # A case begins with the token on the start.
    rows[0][len(groups)] = shared
    found = pivot_rows([rows[0]] + rows[2:], list(range(len(groups))))
    many = [_solution_at(found, number) for number in range(len(groups))]
    return tuple([product_of(chances[at], many[clusters[step[1]]]) for at, step in enumerate(sound[1])])


def value_of(values, places):
    """Returns the sum of the values of these places."""
    return sum_of([values[place] for place in places])


def value_at(values, marking):
    """Returns the mean cost from a marking that occurs to the end."""
    return value_of(values, [place for place, tokens in enumerate(marking) if tokens > 0])


def squared_surprises(sound, chances, costs):
    """Returns for each step the square of what it changes in the mean cost that is expected.

    Whatever was done before, the mean of the next change is 0. So the products of
    different changes have the mean 0, too, and the variance of the cost is the
    mean sum of the squares.
    """
    values = place_values(sound, chances, costs)
    found = []
    for at, (_, inputs, outputs) in enumerate(sound[1]):
        before = value_of(values, inputs)
        change = sum_of([costs[at], value_of(values, outputs), (-before[0], before[1])])
        found.append(product_of(change, change))
    return tuple(found)


def as_fractions(costs):
    """Returns the costs of the steps as fractions."""
    return tuple([whole(cost) for cost in costs])


def _solution_at(found, column):
    if column not in found:
        return ZERO
    row = found[column]
    return ratio(row[len(row) - 1], row[column])
