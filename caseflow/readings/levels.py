"""The chances of the costs, found cost by cost."""

from math import lcm

from caseflow.algebra.rows import shortened
from caseflow.readings.ends import parts_at_ends
from caseflow.readings.ratios import ZERO, ratio, sum_of


def chances_by_cost(graph, end, chances, prices, limit):
    """Returns the chances to come from the first state to the end with the costs 0, 1, and so on up to the limit."""
    rows = _rows_that_cost(graph, end, chances, prices, limit)
    if 0 not in rows:
        return tuple([ZERO for _ in range(limit + 1)])
    shared = 1
    for state in rows:
        shared = lcm(shared, rows[state][0])
    parts = {state: _parts_over(rows[state], shared) for state in rows}
    spans = sorted(set([price for state in parts for _, price in parts[state]]))
    levels = {}
    found = []
    for cost in range(limit + 1):
        levels[cost] = _level(parts, end, spans, levels, cost, shared)
        found.append(ratio(levels[cost][1].get(0, 0), levels[cost][0]))
        # No move looks back further than the greatest price.
        if cost - spans[-1] in levels:
            del levels[cost - spans[-1]]
    return tuple(found)


def _rows_that_cost(graph, end, chances, prices, limit):
    """Returns for each state a pair: a denominator, and the numerators of what comes next that costs something.

    It is given by pairs of a state and a price; the price is 0 only where the
    state is the end. Only states to which such pairs lead, and the first one,
    are needed.
    """
    rows = {}
    for state, moves in enumerate(graph.moves):
        if state != end:
            rows[state] = _row_of_moves(moves, end, chances, prices, limit)
    solved = parts_at_ends(rows)
    needed = {0: True}
    for state in solved:
        needed.update({after: True for after, _ in solved[state][1]})
    return {state: solved[state] for state in solved if state in needed}


def _row_of_moves(moves, end, chances, prices, limit):
    row = {}
    for at, after in moves:
        if prices[at] <= limit:
            column = after if prices[at] == 0 and after != end else (after, prices[at])
            row[column] = sum_of([row.get(column, ZERO), chances[at]])
    return row


def _parts_over(row, shared):
    below, parts = row
    return {column: parts[column] * (shared // below) for column in parts}


def _level(parts, end, spans, levels, cost, shared):
    """Returns a denominator, and for each state the numerator of the chance of this cost from there; 0 is left out."""
    used = [span for span in spans if cost - span in levels]
    below = 1
    for span in used:
        below = lcm(below, levels[cost - span][0])
    factors = {span: below // levels[cost - span][0] for span in used}
    above = {}
    for state in parts:
        total = 0
        for after, price in parts[state]:
            if after == end:
                total += parts[state][(after, price)] * below * int(price == cost)
            elif price in factors:
                number = levels[cost - price][1].get(after, 0)
                total += parts[state][(after, price)] * number * factors[price]
        if total != 0:
            above[state] = total
    states = list(above)
    row = shortened([below * shared] + [above[state] for state in states])
    return row[0], {state: row[at + 1] for at, state in enumerate(states)}
