"""Shortest ways in a graph of numbered states, and runs with loops."""

from caseflow.nets.runs import end_of_run, one_token
from caseflow.nets.searches import way_to


def way_between(moves, begin, end):
    """Returns what is done on a shortest way from one state to another one; () if they are the same."""
    origins = {begin: None}
    level = [begin]
    while level and end not in origins:
        following = []
        for state in level:
            for done, after in moves[state]:
                if after not in origins:
                    origins[after] = (done, state)
                    following.append(after)
        level = following
    return way_to(origins, end)


def names_at(workflow, positions):
    """Returns the names of the steps at these positions."""
    return tuple([workflow[1][at][0] for at in positions])


def cost_of_run(workflow, costs, names):
    """Returns the sum of the costs of these steps."""
    by_name = {step[0]: cost for step, cost in zip(workflow[1], costs)}
    return sum([by_name[name] for name in names])


def is_loop_of_run(workflow, before, loop, after):
    """Returns whether the three are tuples that make up a complete run, and the second one leads back."""
    if not all([isinstance(names, tuple) for names in (before, loop, after)]):
        return False
    if end_of_run(workflow, before + loop + after) != one_token(workflow, 1):
        return False
    return end_of_run(workflow, before) == end_of_run(workflow, before + loop)
