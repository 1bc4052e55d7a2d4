"""The graphs on which chances and costs are found, and how large they may be."""

from caseflow.errors import TooMany
from caseflow.sound.handling import graph_by_order
from caseflow.sound.loops import states_on_loops

MAX_ON_LOOPS = 100


def graph_for_chances(sound):
    """Returns the graph of the first order, or raises TooMany(256), then TooMany(100)."""
    graph = graph_by_order(sound, None)
    check_loops(graph)
    return graph


def check_loops(graph):
    """Raises TooMany(100) if more than 100 of the states lie on a loop."""
    if len(states_on_loops(graph.states_behind())) > MAX_ON_LOOPS:
        raise TooMany(MAX_ON_LOOPS)
