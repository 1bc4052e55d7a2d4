"""How much of what begins at a state comes to each end.

The rows are a dict: for each state it has a dict from columns to fractions. A
column that is a state is where a part goes on, any other column is an end.
"""

from math import gcd

from caseflow.readings.ratios import common_denominator
from caseflow.sound.loops import states_in_postorder


def parts_at_ends(rows):
    """Returns a pair for each state from which an end can be reached: a denominator, and numerators by ends."""
    kept = _rows_that_reach_ends(rows)
    order = _order_of_states(kept)
    places = {state: at for at, state in enumerate(order)}
    solved = {}
    for state in order:
        row = _with_replaced(_row_of_integers(kept[state]), solved, order, places)
        # Now the row has no states but those that come later in the order.
        solved[state] = _without_itself(row, state)
    for state in reversed(order):
        solved[state] = _with_replaced(solved[state], solved, order, places)
    return solved


def _rows_that_reach_ends(rows):
    before = {}
    waiting = []
    for state in rows:
        for column in rows[state]:
            if column in rows:
                before.setdefault(column, []).append(state)
            else:
                waiting.append(state)
    found = {}
    while waiting:
        state = waiting.pop()
        if state not in found:
            found[state] = True
            waiting.extend(before.get(state, []))
    kept = {}
    for state in rows:
        if state in found:
            row = rows[state]
            kept[state] = {column: row[column] for column in row if column in found or column not in rows}
    return kept


def _order_of_states(rows):
    """Returns the states in an order in which few of them stand behind one that leads to them."""
    states = list(rows)
    numbers = {state: at for at, state in enumerate(states)}
    behind = [[numbers[column] for column in rows[state] if column in numbers] for state in states]
    return [states[at] for at in states_in_postorder(behind)]


def _row_of_integers(parts):
    below = common_denominator([parts[column] for column in parts])
    return (below, {column: parts[column][0] * (below // parts[column][1]) for column in parts})


def _with_replaced(row, solved, order, places):
    """Returns the row in which no column is one of the solved states."""
    # The row of a state brings in only later ones, so the first one is taken first.
    left = [places[column] for column in row[1] if column in solved]
    while left != []:
        state = order[min(left)]
        row = _with_one_replaced(row, state, solved[state])
        left = [places[column] for column in row[1] if column in solved]
    return row


def _with_one_replaced(row, column, other):
    below, parts = row
    found = {name: other[0] * parts[name] for name in parts if name != column}
    for name in other[1]:
        found[name] = found.get(name, 0) + parts[column] * other[1][name]
    return _shortened(other[0] * below, found)


def _without_itself(row, state):
    """Returns the row of the state in which what comes back to it is shared out among the other columns."""
    below, parts = row
    if state not in parts:
        return row
    return _shortened(below - parts[state], {name: parts[name] for name in parts if name != state})


def _shortened(below, parts):
    common = below
    for name in parts:
        common = gcd(common, parts[name])
    return (below // common, {name: parts[name] // common for name in parts})
