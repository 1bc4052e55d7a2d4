"""The markings that are met when the clusters are handled in an order."""

from caseflow.errors import TooMany
from caseflow.nets.clusters import list_clusters
from caseflow.nets.moves import has_tokens, marking_behind
from caseflow.nets.runs import MAX_MET, one_token


class Graph:
    """States that are met from the first one on, and where the moves at each of them lead.

    The states have numbers from 0 on. A move is a pair of what is done and the
    number of the state behind it. `handled` has for each state the number of
    the cluster that is handled there, or None.
    """

    def __init__(self, begin):
        self.states = [begin]
        self.handled = []
        self.moves = []
        self._numbers = {begin: 0}

    def number_of(self, state):
        """Returns the number of the state; a new one gets the next number."""
        if state not in self._numbers:
            self._numbers[state] = len(self.states)
            self.states.append(state)
        return self._numbers[state]

    def next_open(self):
        """Returns the first state whose moves are not known yet, or None."""
        known = len(self.moves)
        return self.states[known] if known < len(self.states) else None

    def extend_by(self, cluster, moves):
        """Adds what is handled at the first state whose moves are not known yet."""
        self.handled.append(cluster)
        self.moves.append(moves)

    def many_without(self, state):
        """Returns the number of states besides this one."""
        return len(self.states) - int(state in self._numbers)

    def states_behind(self):
        """Returns for each state the numbers of the states to which its moves lead."""
        return [[after for _, after in moves] for moves in self.moves]


def groups_of_steps(workflow):
    """Returns a triple for each cluster: its number, its inputs, and its steps with their positions."""
    found = []
    for number, (inputs, _) in enumerate(list_clusters(workflow)):
        steps = [(at, step) for at, step in enumerate(workflow[1]) if step[1] == inputs]
        found.append((number, inputs, steps))
    return found


def first_enabled(groups, marking):
    """Returns the first of these groups whose inputs have tokens; a group without steps if there is none."""
    for group in groups:
        if has_tokens(marking, group[1]):
            return group
    return (None, (), [])


def graph_by_order(sound, order):
    """Returns the graph of the markings met by the order, or raises TooMany(256).

    What is done in a move is the position of a step. The workflow is known to be
    sound; `order` is an order, or None for the first one.
    """
    return graph_from(sound, one_token(sound, 0), order)


def graph_from(sound, begin, order):
    """Returns the same graph for what begins at a marking that occurs."""
    groups = groups_of_steps(sound)
    ranked = groups if order is None else [groups[number] for number in order]
    last = one_token(sound, 1)
    graph = Graph(begin)
    marking = graph.next_open()
    while marking is not None:
        cluster, _, steps = first_enabled(ranked, marking)
        graph.extend_by(cluster, [(at, graph.number_of(marking_behind(marking, step))) for at, step in steps])
        if graph.many_without(last) > MAX_MET:
            raise TooMany(MAX_MET)
        marking = graph.next_open()
    return graph


def steps_to_end(graph, end):
    """Returns for each state the smallest number of moves from it to the state `end`, or None."""
    before = [[] for _ in graph.moves]
    for number, moves in enumerate(graph.moves):
        for _, after in moves:
            before[after].append(number)
    found = [None for _ in graph.moves]
    found[end] = 0
    level = [end]
    many = 0
    while level:
        many += 1
        nearer = sorted(set([number for after in level for number in before[after] if found[number] is None]))
        for number in nearer:
            found[number] = many
        level = nearer
    return found
