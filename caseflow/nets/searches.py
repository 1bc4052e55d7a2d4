"""Shortest ways from state to state, found level by level."""

from caseflow.errors import TooMany
from caseflow.nets.moves import marking_behind
from caseflow.nets.runs import MAX_MARKINGS, list_enabled


def search_levels(begin, moves_at, is_end):
    """Returns a shortest way from `begin` to an end, or None, and a list of all states that were reached.

    `moves_at` gives for a state the pairs of what can be done there and the state
    behind it, `is_end` tells whether a state is an end. Raises TooMany(4096) if
    more states are reached by ways that are shorter than the shortest way to an end.
    """
    origins = {begin: None}
    if is_end(begin):
        return (), [begin]
    level = [begin]
    while level:
        # All states so far are reached by shorter ways than those that come now.
        if len(origins) > MAX_MARKINGS:
            raise TooMany(MAX_MARKINGS)
        following = []
        for state in level:
            for done, after in moves_at(state):
                if after not in origins:
                    origins[after] = (done, state)
                    following.append(after)
                    if is_end(after):
                        return way_to(origins, after), list(origins)
        level = following
    return None, list(origins)


def shortest_run(net, begin, is_end):
    """Returns a shortest run from a marking to one that is an end, or None; may raise TooMany(4096)."""
    def moves_at(marking):
        return [(step[0], marking_behind(marking, step)) for step in list_enabled(net, marking)]

    return search_levels(begin, moves_at, is_end)[0]


def run_between(net, begin, end):
    """Returns a shortest run from one marking to another one, or None; may raise TooMany(4096)."""
    def is_end(marking):
        return marking == end

    return shortest_run(net, begin, is_end)


def way_to(origins, state):
    """Returns what is done on the way to the state; `origins` tells of each state what is done last and from where."""
    way = []
    origin = origins[state]
    while origin is not None:
        way.append(origin[0])
        origin = origins[origin[1]]
    return tuple(reversed(way))
