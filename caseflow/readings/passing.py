"""How often runs lead from one marking to another one."""

from caseflow.errors import TooMany
from caseflow.nets.moves import has_tokens, marking_behind
from caseflow.nets.runs import MAX_MARKINGS
from caseflow.readings.ends import parts_at_ends
from caseflow.readings.ratios import ONE, ratio, sum_of
from caseflow.sound.handling import Graph, first_enabled, groups_of_steps


def graph_of_pairs(sound, begin, end):
    """Returns the graph of the runs from `begin` that can stop at the marking `end`, or raises TooMany(4096).

    A state is a pair of a marking and the ascending numbers of the clusters that
    are put aside: they are not handled any more. So each case of runs to `end` is
    found exactly once. What is done in a move is the position of a step, or None
    where a cluster is put aside.
    """
    groups = groups_of_steps(sound)
    graph = Graph((begin, ()))
    state = graph.next_open()
    while state is not None:
        marking, aside = state
        cluster, inputs, steps = first_enabled([group for group in groups if group[0] not in aside], marking)
        moves = [(at, graph.number_of((marking_behind(marking, step), aside))) for at, step in steps]
        if steps != [] and has_tokens(end, inputs):
            more = tuple(sorted(aside + (cluster,)))
            moves.append((None, graph.number_of((marking, more))))
        graph.extend_by(cluster, moves)
        if len(graph.states) > MAX_MARKINGS:
            raise TooMany(MAX_MARKINGS)
        state = graph.next_open()
    return graph


def mean_number_of_ways(graph, chances, end):
    """Returns the sum, over all cases of runs from the first state to the marking `end`, of their chances.

    There is such a run.
    """
    rows = {}
    for number, moves in enumerate(graph.moves):
        if moves != []:
            rows[number] = _row_of_moves(moves, chances)
    if 0 not in rows:
        return ONE
    # Where nothing is handled any more the run has come to its end: to this marking or to another one.
    ends = [number for number, state in enumerate(graph.states) if state[0] == end and number not in rows]
    below, parts = parts_at_ends({number: _only_states(rows[number], rows, ends) for number in rows})[0]
    return ratio(sum(parts.values()), below)


def _row_of_moves(moves, chances):
    parts = {}
    for at, after in moves:
        parts.setdefault(after, []).append(ONE if at is None else chances[at])
    return {after: sum_of(parts[after]) for after in parts}


def _only_states(row, rows, ends):
    return {column: row[column] for column in row if column in rows or column in ends}
