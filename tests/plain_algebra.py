"""What the document says of weightings, counts, siphons and tables, written down once more."""

from fractions import Fraction
from functools import reduce
from itertools import combinations
from math import gcd, lcm

from tests import plain


def closed(net):
    return list(net[1]) + [("closing", (1,), (0,))]


def effect(net, step):
    return tuple((place in step[2]) - (place in step[1]) for place in range(net[0]))


def effects(net):
    """Returns a row for each step of the closed net."""
    return [list(effect(net, step)) for step in closed(net)]


def turned(rows):
    return [list(column) for column in zip(*rows)]


def are_numbers(value, many):
    return type(value) is tuple and len(value) == many and all(type(part) is int for part in value)


def is_weighting(net, value):
    if not are_numbers(value, net[0]):
        return False
    return all(sum(value[p] for p in ins) == sum(value[p] for p in outs) for _, ins, outs in closed(net))


def is_rising(net, value):
    if not are_numbers(value, net[0]):
        return False
    gains = [sum(value[p] for p in outs) - sum(value[p] for p in ins) for _, ins, outs in closed(net)]
    return all(gain >= 0 for gain in gains) and any(gain > 0 for gain in gains)


def total(net, counts):
    found = [0] * net[0]
    for count, step in zip(counts, closed(net)):
        for place in step[1]:
            found[place] -= count
        for place in step[2]:
            found[place] += count
    return found


def are_counts(net, value):
    return are_numbers(value, len(net[1]) + 1) and all(part == 0 for part in total(net, value))


def are_growing(net, value):
    if not are_numbers(value, len(net[1]) + 1):
        return False
    return all(part >= 0 for part in total(net, value)) and any(part >= 1 for part in total(net, value))


def echelon(rows):
    """Returns the reduced row echelon form without its zero rows, and the pivots."""
    rows = [[Fraction(entry) for entry in row] for row in rows]
    pivots = []
    for column in range(len(rows[0]) if rows else 0):
        at = len(pivots)
        below = [k for k in range(at, len(rows)) if rows[k][column] != 0]
        if below:
            rows[at], rows[below[0]] = rows[below[0]], rows[at]
            rows[at] = [entry / rows[at][column] for entry in rows[at]]
            for k in range(len(rows)):
                if k != at:
                    rows[k] = [a - rows[k][column] * b for a, b in zip(rows[k], rows[at])]
            pivots.append(column)
    return rows[:len(pivots)], pivots


def null_space(rows):
    """Returns the basis in reduced form of what all rows send to 0, as tuples of integers."""
    reduced, pivots = echelon(rows)
    width = len(rows[0])
    found = []
    for free in range(width):
        if free not in pivots:
            vector = [Fraction(int(column == free)) for column in range(width)]
            for pivot, row in zip(pivots, reduced):
                vector[pivot] = -row[free]
            found.append(vector)
    basis = []
    for row in echelon(found)[0]:
        times = reduce(lcm, [entry.denominator for entry in row])
        basis.append(tuple(int(entry * times) for entry in row))
    return tuple(basis)


def in_lowest_terms(vector):
    return reduce(gcd, vector) == 1


def is_siphon(steps, places):
    return all(set(ins) & set(places) for _, ins, outs in steps if set(outs) & set(places))


def is_trap(steps, places):
    return all(set(outs) & set(places) for _, ins, outs in steps if set(ins) & set(places))


def sets_of(places):
    """Returns all ascending tuples of some of the places."""
    return [some for many in range(len(places) + 1) for some in combinations(places, many)]


def groups(workflow):
    """Returns the clusters, each as a list of steps, in order."""
    return [[step for step in workflow[1] if step[1] == side] for side in sorted({step[1] for step in workflow[1]})]


def first_handled(workflow, marking):
    """Returns the number of the first enabled cluster and what its steps lead to, or (None, [])."""
    for at, steps in enumerate(groups(workflow)):
        if all(marking[place] > 0 for place in steps[0][1]):
            return at, [plain.done(marking, step) for step in steps]
    return None, []


def met(workflow, most):
    """Returns the markings met by the first order besides the last one, or None if there are more."""
    found = [plain.first(workflow)]
    for marking in found:
        for after in first_handled(workflow, marking)[1]:
            if after not in found and after != plain.last(workflow):
                found.append(after)
        if len(found) > most:
            return None
    return found


def table(workflow, most):
    """Returns the finish table of the first order; markings that cannot be finished are no keys."""
    found = {}
    rest = met(workflow, most)
    number = 0
    while True:
        number += 1
        ready = [m for m in rest if any(
            after == plain.last(workflow) or after in found for after in first_handled(workflow, m)[1]
        )]
        if not ready:
            return {m: found[m] for m in sorted(found)}
        found.update({m: (first_handled(workflow, m)[0], number) for m in ready})
        rest = [m for m in rest if m not in found]


def is_table(workflow, value):
    if type(value) is not dict:
        return False
    last = plain.last(workflow)
    for key in value:
        if not plain.is_marking(workflow, key) or key == last:
            return False
        if not are_numbers(value[key], 2):
            return False
    for key, (cluster, number) in value.items():
        if not 0 <= cluster < len(groups(workflow)) or number < 1:
            return False
        steps = groups(workflow)[cluster]
        if min(key[place] for place in steps[0][1]) == 0:
            return False
        after = [plain.done(key, step) for step in steps]
        if any(m != last and m not in value for m in after):
            return False
        if not any(m == last or value[m][1] < number for m in after):
            return False
    return plain.first(workflow) in value


def is_sound(workflow):
    """Returns whether each reachable marking leads to the last one."""
    leads = {}
    waiting = [plain.first(workflow)]
    while waiting:
        marking = waiting.pop()
        if max(marking) > 1:
            # A place of a sound workflow never has more than one token.
            return False
        if marking not in leads:
            leads[marking] = [plain.done(marking, step) for step in plain.enabled(workflow, marking)]
            waiting += leads[marking]
    finished = {plain.last(workflow)}
    while True:
        more = {m for m in leads if m not in finished and any(after in finished for after in leads[m])}
        if not more:
            return all(m in finished for m in leads)
        finished |= more
