"""Ways through a graph, and how much they cost at least and at most.

The prices are integers of at least 0, one for each position of a step.
"""

from caseflow.readings.ways import way_between
from caseflow.sound.loops import states_in_postorder


def least_route(graph, prices, end):
    """Returns the least costs from all states to the end, and what is done on a way of least cost from the first."""
    least = _least_pairs(graph, prices, end)
    state = 0
    positions = []
    while state != end:
        # A pair is the least one of its state by exactly such moves, and one step less is left behind them.
        ways = [move for move in graph.moves[state] if _with_step(least[move[1]], prices[move[0]]) == least[state]]
        at, state = ways[0]
        positions.append(at)
    return [pair[0] for pair in least], tuple(positions)


def costly_loop(graph, prices, groups):
    """Returns a state and a move there that costs something and leads back to it, or None.

    The groups are the components of the graph.
    """
    for group in groups:
        for state in group:
            for at, after in graph.moves[state]:
                if after in group and prices[at] > 0:
                    return (state, (at, after))
    return None


def greatest_route(graph, prices, groups, end):
    """Returns the greatest costs from all states to the end, and what is done on a way of greatest cost from the first.

    No loop of the graph costs anything.
    """
    numbers = [0 for _ in graph.states]
    # For each state: a state that can be reached from it without costs, and the move to be done there.
    best = [None for _ in graph.states]
    for group in groups:
        ways = []
        for state in group:
            outside = [move for move in graph.moves[state] if move[1] not in group]
            ways.extend([(prices[at] + numbers[after], state, (at, after)) for at, after in outside])
        if ways != []:
            for state in group:
                numbers[state] = max(ways)[0]
                best[state] = max(ways)[1:]
    positions = ()
    state = 0
    while state != end:
        inside, move = best[state]
        positions = positions + way_between(_free_moves(graph, prices), state, inside) + (move[0],)
        state = move[1]
    return numbers, positions


def _with_step(pair, price):
    cost, many = pair
    return (cost + price, many + 1)


def _least_pairs(graph, prices, end):
    """Returns for each state the least pair of the cost and the number of steps from it to the end."""
    # The steps are counted so that a run does not go round a loop without costs.
    order = states_in_postorder(graph.states_behind())
    least = [None for _ in order]
    least[end] = (0, 0)
    is_changed = True
    while is_changed:
        is_changed = False
        for state in order:
            moves = [move for move in graph.moves[state] if least[move[1]] is not None]
            ways = [_with_step(least[after], prices[at]) for at, after in moves]
            if ways != [] and min(ways) != least[state]:
                least[state] = min(ways)
                is_changed = True
    return least


def _free_moves(graph, prices):
    return [[(at, after) for at, after in moves if prices[at] == 0] for moves in graph.moves]
