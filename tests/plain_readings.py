"""What the document says of orders, chances and costs, written down once more, marking by marking."""

from fractions import Fraction

from tests import plain, plain_algebra, plain_cases


def met(workflow, order):
    """Returns a dict from the markings met by the order, besides the last one, to the cluster handled there."""
    groups = plain_algebra.groups(workflow)
    found = {}
    waiting = [plain.first(workflow)]
    while waiting:
        marking = waiting.pop()
        if marking != plain.last(workflow) and marking not in found:
            found[marking] = [
                number for number in order if all(marking[place] for place in groups[number][0][1])
            ][0]
            waiting += [plain.done(marking, step) for step in groups[found[marking]]]
    return found


def clusters_enabled(workflow, marking):
    groups = plain_algebra.groups(workflow)
    return [at for at, steps in enumerate(groups) if all(marking[place] for place in steps[0][1])]


def moves(workflow, plan):
    """Returns for each key of a plan the steps of its cluster, by their positions, and the markings behind them."""
    groups = plain_algebra.groups(workflow)
    return {
        marking: [(workflow[1].index(step), plain.done(marking, step)) for step in groups[plan[marking]]]
        for marking in plan
    }


def is_plan(workflow, value):
    if type(value) is not dict:
        return False
    first, last = plain.first(workflow), plain.last(workflow)
    for key in value:
        if not plain.is_marking(workflow, key) or type(value[key]) is not int:
            return False
        if value[key] not in clusters_enabled(workflow, key):
            return False
    if first not in value or last in value:
        return False
    found = moves(workflow, value)
    return all(after in value or after == last for key in found for _, after in found[key])


def solved(rows):
    """Returns the solution of equations x = constant + sum of factors times unknowns; rows by unknowns."""
    names = list(rows)
    at = {name: k for k, name in enumerate(names)}
    matrix = []
    for name in names:
        constant, factors = rows[name]
        row = [Fraction(0)] * len(names) + [Fraction(constant)]
        row[at[name]] += 1
        for other, factor in factors:
            row[at[other]] -= factor
        matrix.append(row)
    reduced, pivots = plain_algebra.echelon(matrix)
    if pivots != list(range(len(names))):
        raise ValueError("not exactly one solution")
    return {name: reduced[k][-1] for name, k in at.items()}


def chances_of(workflow, chances):
    if chances is not None:
        return [Fraction(*part) for part in chances]
    sides = [step[1] for step in workflow[1]]
    return [Fraction(1, sides.count(side)) for side in sides]


def costs_of(workflow, costs):
    return [1] * len(workflow[1]) if costs is None else list(costs)


def values(workflow, plan, chances, costs):
    """Returns the expected cost from each key of the plan, and 0 for the last marking."""
    found = moves(workflow, plan)
    last = plain.last(workflow)
    rows = {key: (
        sum(chances[at] * costs[at] for at, _ in found[key]),
        [(after, chances[at]) for at, after in found[key] if after != last],
    ) for key in found}
    return {**solved(rows), last: Fraction(0)}


def variance(workflow, plan, chances, costs):
    """Returns the variance of the cost, from the mean of its square."""
    found = moves(workflow, plan)
    last = plain.last(workflow)
    means = values(workflow, plan, chances, costs)
    rows = {key: (
        sum(chances[at] * (costs[at] ** 2 + 2 * costs[at] * means[after]) for at, after in found[key]),
        [(after, chances[at]) for at, after in found[key] if after != last],
    ) for key in found}
    return solved(rows)[plain.first(workflow)] - means[plain.first(workflow)] ** 2


def counts(workflow, plan, chances):
    """Returns the mean number of occurrences of each step, from the mean numbers of visits of the markings."""
    found = moves(workflow, plan)
    rows = {key: (int(key == plain.first(workflow)), []) for key in found}
    for key in found:
        for at, after in found[key]:
            if after != plain.last(workflow):
                rows[after][1].append((key, chances[at]))
    visits = solved(rows)
    many = [Fraction(0)] * len(workflow[1])
    for key in found:
        for at, _ in found[key]:
            many[at] += visits[key] * chances[at]
    return many


def avoiding(workflow, plan, chances, names):
    """Returns the chance that no step of these names is done."""
    found = moves(workflow, plan)
    found = {key: [move for move in found[key] if workflow[1][move[0]][0] not in names] for key in found}
    leading = {plain.last(workflow)}
    while any(key not in leading and any(after in leading for _, after in found[key]) for key in found):
        leading |= {key for key in found if any(after in leading for _, after in found[key])}
    first, last = plain.first(workflow), plain.last(workflow)
    if first not in leading:
        return Fraction(0)
    rows = {key: (
        sum(chances[at] for at, after in found[key] if after == last),
        [(after, chances[at]) for at, after in found[key] if after in leading and after != last],
    ) for key in found if key in leading}
    return solved(rows)[first]


def product(numbers):
    result = Fraction(1)
    for number in numbers:
        result *= number
    return result


def of_run(workflow, numbers, run):
    """Returns the numbers of the steps of a run."""
    by_name = {step[0]: number for step, number in zip(workflow[1], numbers)}
    return [by_name[name] for name in run]


def chances_by_cost(workflow, plan, chances, costs, limit):
    """Returns the chances of the costs up to the limit; the cost so far is kept beside the marking."""
    found = moves(workflow, plan)
    first, last = plain.first(workflow), plain.last(workflow)
    result = []
    for wanted in range(limit + 1):
        states = {(first, 0)}
        waiting = [(first, 0)]
        while waiting:
            key, cost = waiting.pop()
            for at, after in found.get(key, ()):
                state = (after, cost + costs[at])
                if state[1] <= wanted and state not in states:
                    states.add(state)
                    waiting.append(state)
        leading = {(last, wanted)} & states
        while True:
            more = {(key, cost) for key, cost in states if (key, cost) not in leading and any(
                (after, cost + costs[at]) in leading for at, after in found.get(key, ())
            )}
            if not more:
                break
            leading |= more
        rows = {(key, cost): (int(key == last), [
            ((after, cost + costs[at]), chances[at]) for at, after in found.get(key, ())
            if (after, cost + costs[at]) in leading
        ]) for key, cost in leading}
        result.append(solved(rows)[first, 0] if (first, 0) in leading else Fraction(0))
    return result


def graph(workflow):
    """Returns for each reachable marking the positions of the enabled steps and the markings behind them."""
    found = {}
    waiting = [plain.first(workflow)]
    while waiting:
        marking = waiting.pop()
        if marking not in found:
            found[marking] = [
                (workflow[1].index(step), plain.done(marking, step)) for step in plain.enabled(workflow, marking)
            ]
            waiting += [after for _, after in found[marking]]
    return found


def leads(found):
    """Returns for each marking all markings to which something that is not empty leads."""
    reached = {key: {after for _, after in found[key]} for key in found}
    while True:
        more = {key: reached[key] | {far for near in reached[key] for far in reached[near]} for key in found}
        if more == reached:
            return reached
        reached = more


def least_cost(workflow, costs):
    """Returns the least cost of a complete run, by a search through all markings."""
    found = graph(workflow)
    least = {plain.first(workflow): 0}
    for _ in found:
        for key in found:
            for at, after in found[key]:
                if key in least:
                    least[after] = min(least.get(after, least[key] + costs[at]), least[key] + costs[at])
    return least[plain.last(workflow)]


def greatest_cost(workflow, costs):
    """Returns the greatest cost of a complete run, or None if there is none."""
    found = graph(workflow)
    reached = leads(found)
    if any(costs[at] > 0 and (after == key or key in reached[after]) for key in found for at, after in found[key]):
        return None
    greatest = {plain.first(workflow): 0}
    for _ in found:
        for key in found:
            for at, after in found[key]:
                if key in greatest:
                    greatest[after] = max(greatest.get(after, 0), greatest[key] + costs[at])
    return greatest[plain.last(workflow)]


def has_free_loop(workflow, costs, wanted):
    """Returns whether a complete run with this cost passes a marking with a loop without costs."""
    found = graph(workflow)
    free = {key: [(at, after) for at, after in found[key] if costs[at] == 0] for key in found}
    reached = leads(free)
    states = {(plain.first(workflow), 0)}
    waiting = list(states)
    behind = {}
    while waiting:
        key, cost = waiting.pop()
        for at, after in found[key]:
            state = (after, cost + costs[at])
            if state[1] <= wanted:
                behind.setdefault(state, []).append((key, cost))
                if state not in states:
                    states.add(state)
                    waiting.append(state)
    leading, waiting = set(), [(plain.last(workflow), wanted)]
    while waiting:
        state = waiting.pop()
        if state not in leading and state in states:
            leading.add(state)
            waiting += behind.get(state, [])
    return any(key in reached[key] for key, _ in leading)


def is_bound(workflow, costs, cost, value, sign):
    """Returns whether the value is a lower table (sign 1) or an upper table (sign -1) with this cost at first."""
    if type(value) is not dict or any(type(part) is not tuple or len(part) != 2 for part in value.values()):
        return False
    plan = {key: part[0] for key, part in value.items()}
    if not is_plan(workflow, plan) or any(type(part[1]) is not int for part in value.values()):
        return False
    numbers = {**{key: part[1] for key, part in value.items()}, plain.last(workflow): 0}
    if numbers[plain.first(workflow)] != cost:
        return False
    found = moves(workflow, plan)
    return all(sign * numbers[key] <= sign * (costs[at] + numbers[after]) for key in found for at, after in found[key])


def is_run_of_cost(workflow, costs, cost, run):
    if type(cost) is not int:
        return False
    passed = plain.follow(workflow, run, plain.first(workflow))
    if type(passed) is not list or passed[-1] != plain.last(workflow):
        return False
    return sum(of_run(workflow, costs, run)) == cost


def is_loop(workflow, before, loop, after):
    if not all(type(part) is tuple for part in (before, loop, after)):
        return False
    passed = plain.follow(workflow, before + loop + after, plain.first(workflow))
    if type(passed) is not list or passed[-1] != plain.last(workflow):
        return False
    return passed[len(before)] == passed[len(before + loop)]


def is_least(workflow, value, costs):
    if type(value) is not tuple or len(value) != 3:
        return False
    return is_run_of_cost(workflow, costs, value[0], value[1]) and is_bound(workflow, costs, value[0], value[2], 1)


def is_greatest(workflow, value, costs):
    if type(value) is not tuple or len(value) != 4:
        return False
    if value[0] == "greatest":
        return (
            is_run_of_cost(workflow, costs, value[1], value[2]) and is_bound(workflow, costs, value[1], value[3], -1)
        )
    return value[0] == "unbounded" and is_loop(workflow, *value[1:]) and sum(of_run(workflow, costs, value[2])) > 0


def is_free(workflow, costs, cost, value):
    if type(value) is not tuple or len(value) != 3 or not is_loop(workflow, *value) or value[1] == ():
        return False
    run = value[0] + value[1] + value[2]
    return sum(of_run(workflow, costs, value[1])) == 0 and sum(of_run(workflow, costs, run)) == cost


def case_passes(workflow, run, marking):
    """Returns whether some run of the case of this run comes to the marking."""
    return any(
        marking in plain.follow(workflow, other, plain.first(workflow)) for other in plain_cases.case(workflow, run)
    )


def as_pair(number):
    number = Fraction(number)
    return (number.numerator, number.denominator)
